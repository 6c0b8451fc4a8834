import PyProof.Rows.All
import Wide.All
import OpenK.AllK
import Wide.FinOn
import HandS.ForMost
import HandS.Evl
import HandS.Walk
import HandS.Zip
import HandS.IsInst
import HandS.Style
import HandS.FStr
import HandS.Strs
import HandS.TupAny
import HandS.Deep
import HandS.Exc
import HandS.TryOnly
import HandS.ExcOwn
import HandS.WordsExc
import KE.GoesMore
import KE.GoesEnum
import KE.DataMinMax
import KE.SortData
import HandS.SortKw
import HandS.TupSets
import HandS.SetBool
import KE.KeyNested
import PyProof.Transfer
import HandS.DictComp
import HandS.Conv
import KE.KDictKeyed
import HandS.ExcField
import HandS.ExcInit
import HandS.TryMany
import HandS.HeadHook4
import HandS.HeadHook3
import HandS.HeadHook2
import HandS.HeadHook1
import HandS.HeadEnd
import HandS.Head2
import HandS.Head1
import HandS.Head0
import KE.KStateDown
import HandS.Flow
import KE.KUnpackStar
import KE.GoesEnumKw
import KE.KTupSum
import PySem.Challenge.RW_earmarks_k37_torn
set_option Elab.async false
set_option linter.all false
set_option maxRecDepth 100000
set_option maxHeartbeats 2000000
abbrev aqD:=@Option.bind_eq_some_iff
abbrev aqE:=@PySem.W.Frag
abbrev aqF:=@Bool.and_eq_true
abbrev aqG:=@List.getElem?_eq_some_iff
abbrev aqH:=@List.getElem?_eq_getElem
abbrev aqI:=@List.map_cons
abbrev aqJ:=@List.mem_cons_of_mem
abbrev aqK:=@List.mem_cons_self
abbrev aqL:=@List.mem_singleton
abbrev aqM:=@List.mem_of_getElem?
abbrev aqN:=@List.getElem?_set_ne
abbrev aqO:=@List.length_map
abbrev aqP:=@List.getElem?_append_left
abbrev aqQ:=@List.getElem?_map
abbrev aqR:=@List.mem_map
abbrev aqS:=@List.length_cons
abbrev aqT:=@List.getElem?_append_right
abbrev aqU:=@List.mem_append
abbrev aqV:=@List.mem_cons
abbrev aqW:=@List.length_filter_le
abbrev aqX:=@List.getElem?_set_self
abbrev aqY:=@Bool.not_eq_true'
abbrev aqZ:=@List.all_eq_true
abbrev aq0:=@Option.some.inj
abbrev aq1:=@List.mem_filter
abbrev aq2:=@Nat.le_refl
abbrev aq3:=@Function.comp_def
abbrev aq4:=@List.length_set
abbrev aq5:=@List.ext_getElem?
abbrev aq6:=@List.lookup_cons
abbrev aq7:=@Nat.le_trans
abbrev aq8:=@List.getElem?_eq_none
abbrev aq9:=@Bool.false_eq_true
abbrev ara:=@List.map_append
abbrev arb:=@List.all_cons
abbrev ard:=@Nat.ne_of_lt
abbrev arf:=@List.map_map
abbrev arh:=@List.not_mem_nil
abbrev ari:=@Array.length_toList
abbrev arj:=@List.length_append
abbrev ark:=@List.mem_append_left
abbrev arl:=@List.getElem_mem
abbrev arn:=@Nat.zero_le
abbrev aro:=@Array.getElem?_toList
abbrev arp:=@List.getElem?_mapIdx
abbrev arq:=@List.nodup_append
abbrev ars:=@List.append_nil
abbrev aru:=@List.length_reverse
abbrev arv:=@Nat.succ.inj
abbrev arw:=@List.filter_cons
abbrev arx:=@Option.map_eq_some_iff
abbrev arz:=@List.drop_eq_getElem_cons
abbrev arA:=@List.getElem?_zip_eq_some
abbrev arB:=@List.nodup_cons
abbrev arC:=@List.getElem?_set
abbrev arD:=@List.any_cons
abbrev arE:=@List.drop_length
abbrev arF:=@List.zip_cons_cons
abbrev arG:=@List.mem_append_right
abbrev arH:=@Nat.lt_succ_of_lt
abbrev arI:=@List.reverse_cons
abbrev arJ:=@List.mem_of_mem_take
abbrev arK:=@List.map_nil
abbrev arL:=@List.eraseDups_cons
abbrev arM:=@List.filter_eq_self
abbrev arN:=@Bool.eq_iff_iff
abbrev arO:=@List.foldl_cons
abbrev arP:=@List.filter_filter
abbrev arQ:=@List.size_toArray
abbrev arR:=@List.nodup_nil
abbrev arS:=@List.any_map
abbrev arT:=@List.length_drop
abbrev arU:=@Nat.add_sub_cancel'
abbrev arV:=@Nat.add_left_cancel
abbrev arW:=@Bool.or_eq_true
abbrev arX:=@List.drop_zero
namespace Rf
open PySem PySem.Spec PyProof.Rows L2 HandSHeadRun
abbrev Dat:=PyData
abbrev Ft:=List (Str×List Str)
structure LR(fa:List He.Fa)(fn:List He.DefD)(tb:List He.Tab)(ex:aqE->Bool)(w:World)(K:aqE):Prop where
 t:He.SaysT fa fn tb w K
 more:ex K=true
def ab0(as:List Addr)(fa:List He.Fa)(fn:List He.DefD)(tb:List He.Tab)(ex:aqE->Bool)(g:Addr->Option Obj):He.AlX:=(He.obsT fa fn tb (He.frG g as),ex (He.frG g as))
def abH(as:List Addr)(fa:List He.Fa)(fn:List He.DefD)(tb:List He.Tab)(ex:aqE->Bool):PySem.W.Hook where
 α:=He.AlX
 obs:=fun s=>ab0 as fa fn tb ex s.heap.get?
 val:=fun w=>He.valX fn tb w
 says:=fun w h=>∃K:aqE,K.In h/\LR fa fn tb ex w K
 of:=fun w s e=>⟨_,He.frG_in,⟨congrArg (fun z:He.AlX=>z.1) e,congrArg (fun z:He.AlX=>z.2) e⟩⟩
 keeps:=fun _ _ _ ⟨K,hK,c⟩ k=>⟨K,PySem.W.Frag.In.keeps hK k,c⟩
theorem ag7{as:List Addr}{fa:List He.Fa}{fn:List He.DefD}{tb:List He.Tab}{ex:aqE->Bool}{g:Addr->Option Obj}{s:Shared}(h:∀a,g a=s.heap.get? a):ab0 as fa fn tb ex g=(abH as fa fn tb ex).obs s:=by
 rw[show g=s.heap.get? from funext h]
 rfl
def KY(K:aqE)(ft:Ft):Bool:=ft.all fun p=>(He.Fa.cls p.1).ok K&&p.2.all fun f=>(He.Fa.noat p.1 f).ok K
def xmB(K:aqE)(xm:List (Str×List (Str×Bool))):Bool:=xm.all fun p=>p.2.all fun q=>(He.Fa.exm q.1 p.1 q.2).ok K
def aiS(K:aqE)(C:Addr):Bool:=(match K.lookup C with
 |some ⟨.type t,_,.cls cd,sl⟩=>decide (t="type")&&(match cd.mro,sl.toList with
  |.ref C'::bm,[_,_,_,_,some (.builtin n),_]=>decide (C'=C)&&(decide (n="ValueError.__new__")&&(!cd.hasDel&&(cd.hasDict&&PySem.HandSPX.refsVE bm)))
  |_,_=>false)
 |_=>false)&&(He.eqO (PySem.W.findIn K (.ref C) "__setattr__") (some (some (.builtin "object.__setattr__")))&&(decide (PySem.W.subIn K (.ref C) (.type "BaseException")=some true)&&(decide (PySem.W.typeIn K (.ref C)=some (.type "type"))&&PySem.W.keepIn K (.ref C))))
def Uv(K:aqE)(x:Str)(fs:List Str):Bool:=aiS K (He.ga K x)&&(He.eqO (PySem.W.findIn K (.ref (He.ga K x)) "__init__") (some (some (.ref (He.ma K (He.ga K x) "__init__"))))&&(decide (PySem.W.typeIn K (.ref (He.ma K (He.ga K x) "__init__"))=some (.type "function"))&&(xfB K (He.ga K x)&&fs.all fun f=>He.eqO (PySem.W.findIn K (.ref (He.ga K x)) f) (some none))))
def WL(K:aqE)(a:Addr)(xs:List Str):Bool:=match K.lookup a with
 |some ⟨.type c,_,.seq its _,_⟩=>decide (c="tuple")&&(decide (its.size<=sizeLine)&&He.relAll (xs.map V.str) its.toList)
 |_=>false
def aeR(K:aqE)(x:Str)(kvs:List (Str×List Str)):Bool:=(match K.lookup (He.ga K x) with
 |some ⟨_,_,.dict es _,_⟩=>es.toList.all (fun e=>(match e.key with
   |.str y _=>(kvs.map (·.1)).contains y
   |_=>false)&&!e.refKey)
 |_=>false)&&(decide ((kvs.map (·.1)).Nodup)&&kvs.all fun q=>match PySem.W.nsIn K (He.ga K x) q.1 with
  |some (some (.ref a))=>WL K a q.2
  |_=>false)
section
open PySem.W PySem.Calls
noncomputable abbrev aiF (r:PySem.W.OpenRow) (M:Nat) (w:World) (os:PySem.OsState):Option PySem.W.SharedT:=endF (stepQ (denQ tabQ) r.prog w) M r.prog w os
def afs(r:PySem.W.OpenRow)(q:Program)(as:List Addr)(ex:aqE->Bool)(M:Nat)(loose:List Str)(w:World):Prop:=∀os,(aiF r M w os).map (fun s=>(looksF r.prog (boot_heap w.params) s.abs,HandSHeadRun.seenQ q loose (importedModules r.prog.main.body) (fun s=>PySem.W.xlAt q [] s&&PySem.W.recOk r.toRowW.records s) s.abs,ex (He.frG (getT s) as)))=some (true,PySem.W.openGood q loose,true)
def aeJ(r:PySem.W.OpenRow)(as:List Addr)(fa:List He.Fa)(fn:List He.DefD)(tb:List He.Tab)(M:Nat)(w:World):Prop:=∀os,(aiF r M w os).map (fun s=>He.obsT fa fn tb (He.frG (getT s) as))=some (He.valT fn tb w)
theorem Vm{r:PySem.W.OpenRow}{q:Program}{as:List Addr}{fa:List He.Fa}{fn:List He.DefD}{tb:List He.Tab}{ex:aqE->Bool}{M:Nat}{loose:List Str}{w:World}
  (a:afs r q as ex M loose w) (c:aeJ r as fa fn tb M w):RunEq r q (abH as fa fn tb ex) (fun s=>ab0 as fa fn tb ex (getT s)) M loose w:=fun os=>by
 obtain⟨s,hs,h1⟩:=arx.mp (a os)
 obtain⟨h1,h2⟩:=Prod.mk.inj h1
 obtain⟨h2,h4⟩:=Prod.mk.inj h2
 have h3:=c os
 have hs':endF (stepQ (denQ tabQ) r.prog w) M r.prog w os=some s:=hs
 rw[hs,Option.map_some]at h3
 have h3:=aq0 h3
 rw[hs',Option.map_some]
 exact congrArg some (Prod.ext h1 (Prod.ext h2 (Prod.ext h3 h4)))
end
end Rf
namespace Pr
open PySem PySem.Spec PyProof.Rows L2 Evl Rf
def cQ:Dat:=.int 9
def iQ:Dat:=.int 1
def jZ:Dat:=.int 3
def gj:Dat:=.int 9
def iI:Dat:=.tuple [.str "lt",.str "lf",.str "lh",.str "rt",.str "rf",.str "rh"]
def jr:Dat:=.tuple [.int 0,.int 0,.int 0,.int 0,.int 0,.int 0]
def nY:Dat:=.int 999999999
def yh:List (Str×List Str):=[("owner",[]),("ground",["number"]),("enrol",["number","number","ear"]),("leave",["number","number"]),("bring",["number","number","ear"]),("bear",["number"]),("cut",["number"]),("tear",["number","place"]),("sell",["number","number"]),("move",["number","number"]),("die",["number"]),("unite",["number","number"]),("part",["number"]),("pass",["number","number"]),("heir",["number","number","number"])]
def jU:Ft:=[("Beast",["story","mother","owner","ground","due","ear","alive"]),("Herd",["beasts"]),("Grounds",["allowances","circles"]),("Rights",["held"]),("Commons",["owner_count","holders","grounds","rights","herd"])]
def tR:List (Str×Bool):=[("NoGround",true),("NoOwner",true),("NoRight",true),("HasRight",true),("NoneFree",true),("BadExtra",true),("BadAllowance",true),("Clash",true),("BadEar",true),("Bare",true),("StillThere",true),("NoBeast",true),("Dead",true),("Unmarked",true),("Deepest",true),("NoPlace",true),("SameOwner",true),("SameGround",true),("Together",true),("Alone",true),("BadDeed",true)]
def Im:List (Str×Bool):=[("NoGround",false),("NoOwner",false),("NoRight",false),("HasRight",false),("NoneFree",false),("BadExtra",false),("BadAllowance",false),("Clash",false),("BadEar",false),("Bare",false),("StillThere",false),("NoBeast",true),("Dead",false),("Unmarked",false),("Deepest",false),("NoPlace",false),("SameOwner",false),("SameGround",false),("Together",false),("Alone",false),("BadDeed",false)]
def RK:List (Str×Bool):=[("NoGround",false),("NoOwner",false),("NoRight",false),("HasRight",false),("NoneFree",false),("BadExtra",false),("BadAllowance",false),("Clash",false),("BadEar",false),("Bare",false),("StillThere",false),("NoBeast",false),("Dead",true),("Unmarked",false),("Deepest",false),("NoPlace",false),("SameOwner",false),("SameGround",false),("Together",false),("Alone",false),("BadDeed",false)]
def IK:List (Str×Bool):=[("NoGround",false),("NoOwner",false),("NoRight",false),("HasRight",false),("NoneFree",false),("BadExtra",false),("BadAllowance",false),("Clash",false),("BadEar",false),("Bare",false),("StillThere",false),("NoBeast",false),("Dead",false),("Unmarked",false),("Deepest",false),("NoPlace",true),("SameOwner",false),("SameGround",false),("Together",false),("Alone",false),("BadDeed",false)]
def Hz:List (Str×Bool):=[("NoGround",false),("NoOwner",false),("NoRight",false),("HasRight",false),("NoneFree",false),("BadExtra",false),("BadAllowance",false),("Clash",false),("BadEar",false),("Bare",false),("StillThere",false),("NoBeast",false),("Dead",false),("Unmarked",false),("Deepest",true),("NoPlace",false),("SameOwner",false),("SameGround",false),("Together",false),("Alone",false),("BadDeed",false)]
def xmH:List (Str×List (Str×Bool)):=[("CommonError",tR),("NoBeast",Im),("Dead",RK),("NoPlace",IK),("Deepest",Hz)]
def dfH:List (Str×Bool):=[("held",true),("holders",false)]
def Vd:List (Str×List Str):=[("Clash",["ones","others","ear"])]
def aX(i:Nat):Stmt:=PySem.Challenge.pw_earmarks_k37_torn.main.body.getD i (.Pass ⟨0,0,0,0⟩)
abbrev Gm:Stmt:=inClass (aX 50) 0
abbrev Jo:Stmt:=inClass (aX 55) 0
abbrev M9:Stmt:=inClass (aX 35) 0
abbrev Gf:Stmt:=inClass (aX 66) 0
abbrev Ji:Stmt:=inClass (aX 34) 2
abbrev Km:Stmt:=inClass (aX 34) 4
abbrev Bu:Stmt:=inClass (aX 66) 17
abbrev Am:Stmt:=inClass (aX 55) 1
abbrev Fx:Stmt:=inClass (aX 50) 3
abbrev Jq:Stmt:=inClass (aX 50) 2
abbrev Fq:Stmt:=inClass (aX 50) 4
abbrev xR:Stmt:=inClass (aX 50) 5
abbrev zB:Stmt:=inClass (aX 50) 6
abbrev zp:Stmt:=inClass (aX 66) 19
abbrev Gy:Stmt:=inClass (aX 66) 32
abbrev s_row:Stmt:=aX 71
abbrev X5:Stmt:=aX 72
abbrev afW:Stmt:=aX 73
abbrev M4:Stmt:=aX 74
abbrev Vt:Stmt:=aX 75
abbrev v8:Stmt:=inClass (aX 66) 33
abbrev Fw:Stmt:=inClass (aX 55) 3
abbrev zP:Stmt:=inClass (aX 55) 4
abbrev wF:Stmt:=inClass (aX 66) 34
abbrev xQ:Stmt:=inClass (aX 66) 1
abbrev zQ:Stmt:=inClass (aX 55) 2
abbrev aeh:Stmt:=aX 47
abbrev aa7:Stmt:=aX 44
abbrev Nb:Stmt:=aX 52
abbrev aaJ:Stmt:=aX 45
abbrev aec:Stmt:=aX 46
abbrev KN:Stmt:=aX 53
abbrev wj:Stmt:=inClass (aX 66) 35
abbrev Zw:Stmt:=aX 57
abbrev Ar:Stmt:=inClass (aX 35) 5
abbrev Fl:Stmt:=inClass (aX 35) 6
abbrev xM:Stmt:=inClass (aX 55) 7
abbrev uO:Stmt:=inClass (aX 66) 22
abbrev zH:Stmt:=inClass (aX 66) 21
abbrev Gq:Stmt:=inClass (aX 50) 7
abbrev FJ:Stmt:=inClass (aX 66) 18
abbrev zm:Stmt:=inClass (aX 66) 15
abbrev v9:Stmt:=inClass (aX 50) 1
abbrev xq:Stmt:=inClass (aX 66) 2
abbrev Vq:Stmt:=aX 58
abbrev aaR:Stmt:=aX 43
abbrev Qg:Stmt:=aX 59
abbrev wU:Stmt:=inClass (aX 66) 36
abbrev Zf:Stmt:=aX 28
abbrev Q5:Stmt:=aX 65
abbrev CP:Stmt:=inClass (aX 66) 3
abbrev Jg:Stmt:=inClass (aX 55) 5
abbrev Dq:Stmt:=inClass (aX 66) 4
abbrev Bx:Stmt:=inClass (aX 34) 1
abbrev aaY:Stmt:=aX 30
abbrev KZ:Stmt:=inClass (aX 34) 0
abbrev BZ:Stmt:=inClass (aX 35) 1
abbrev CJ:Stmt:=inClass (aX 66) 5
abbrev J5:Stmt:=inClass (aX 35) 2
abbrev Jm:Stmt:=inClass (aX 35) 3
abbrev Jk:Stmt:=inClass (aX 35) 4
abbrev Fb:Stmt:=inClass (aX 66) 6
abbrev Pq:Stmt:=aX 32
abbrev V1:Stmt:=aX 31
abbrev Gp:Stmt:=inClass (aX 34) 3
abbrev Jj:Stmt:=inClass (aX 66) 7
abbrev FW:Stmt:=inClass (aX 66) 8
abbrev Jl:Stmt:=inClass (aX 35) 8
abbrev zF:Stmt:=inClass (aX 35) 9
abbrev Ey:Stmt:=inClass (aX 66) 9
abbrev Fv:Stmt:=inClass (aX 66) 10
abbrev Jh:Stmt:=inClass (aX 66) 11
abbrev QC:Stmt:=aX 60
abbrev zK:Stmt:=inClass (aX 66) 24
abbrev Ay:Stmt:=inClass (aX 50) 10
abbrev Dr:Stmt:=inClass (aX 50) 8
abbrev DQ:Stmt:=inClass (aX 66) 12
abbrev Gv:Stmt:=inClass (aX 50) 9
abbrev Ew:Stmt:=inClass (aX 66) 13
abbrev yX:Stmt:=inClass (aX 55) 6
abbrev Kh:Stmt:=inClass (aX 35) 7
abbrev Ao:Stmt:=inClass (aX 66) 14
abbrev MJ:Stmt:=aX 40
abbrev adZ:Stmt:=aX 39
abbrev JQ:Stmt:=inClass (aX 66) 16
abbrev acA:Stmt:=aX 76
abbrev aeu:Stmt:=aX 77
abbrev U3:Stmt:=aX 78
abbrev af5:Stmt:=aX 79
abbrev adR:Stmt:=aX 80
abbrev adT:Stmt:=aX 81
abbrev acp:Stmt:=aX 70
abbrev aaS:Stmt:=aX 82
abbrev afT:Stmt:=aX 83
abbrev af0:Stmt:=aX 84
abbrev Rq:Stmt:=aX 68
abbrev Ze:Stmt:=aX 69
abbrev af8:Stmt:=aX 87
abbrev acU:Stmt:=aX 88
abbrev abg:Stmt:=aX 85
abbrev Py:Stmt:=aX 86
abbrev Lw:Stmt:=aX 89
abbrev KD:Stmt:=inClass (aX 23) 0
abbrev dM(c m q:Str)(s:Stmt):He.DefD:=⟨(c,some m),m,q,defArgs s,defBody s,defScope s,[],[]⟩
abbrev dF(x:Str)(s:Stmt):He.DefD:=⟨(x,none),x,x,defArgs s,defBody s,defScope s,[],[]⟩
def xsH:List Str:=["Grounds","Rights","Herd","Commons","Beast","NoGround","NoOwner","NoRight","HasRight","NoneFree","BadExtra","BadAllowance","Clash","BadEar","Bare","StillThere","NoBeast","Dead","Unmarked","Deepest","NoPlace","SameOwner","SameGround","Together","Alone","BadDeed","CommonError"]
def tbs:List He.Tab:=[(fun K=>He.ga K "SHAPES",["owner","ground","enrol","leave","bring","bear","cut","tear","sell","move","die","unite","part","pass","heir"])]
def nm0:List PySem.Str:=["_wall","CommonError","BadEar","Bare","BadAllowance","BadExtra","NoPlace","Deepest","NoOwner","NoGround","NoBeast","NoRight"]
def nm1:List PySem.Str:=["HasRight","StillThere","Dead","Unmarked","SameOwner","SameGround","Together","Alone","NoneFree","BadDeed","Clash","PLACES"]
def nm2:List PySem.Str:=["GREATEST_DEPTH","BARE_EAR","is_ear","begun","gone_on","deepened","Beast","Herd","SHAPES","GREATEST_PART","fits","part_fits"]
def nm3:List PySem.Str:=["deeper","joint","lacks","apart","meet","torn","GREATEST_ALLOWANCE","Grounds","offspring","first_free","Rights","tidied"]
def nm4:List PySem.Str:=["barring","ask_room","clashing","owners_of","FEWEST_EXTRA","MOST_EXTRA","need_ear","Commons","_law_herd_bad","_law_befell","_law_cell","_law_row"]
def nm5:List PySem.Str:=["_law_ear_by","_law_ear","_law_begun","_law_word_by","_law_done","_law_near","_law_mark_by","_law_ref","_law_deed","_law_play","_law_asked","_law_cut"]
def nm6:List PySem.Str:=["_law_raw","_law_whole","_law_like","_law_due","_law_tell"]
def nm:List PySem.Str:=nm0++nm1++nm2++nm3++nm4++nm5++nm6
def fa0:List He.Fa:=[.mkr "Grounds",.mkr "Rights",.mkr "Herd",.mkr "Commons",.meth "Beast" "stand",.meth "Beast" "told",.meth "Commons" "owners",.meth "Rights" "all_rows",.meth "Grounds" "many",.meth "Grounds" "has",.meth "Grounds" "need",.meth "Grounds" "allowance"]
def fa1:List He.Fa:=[.meth "Grounds" "together",.meth "Commons" "together",.meth "Commons" "look",.glo "_law_row",.glo "_law_ear_by",.glo "_law_ear",.glo "_law_begun",.glo "_law_word_by",.meth "Commons" "need_owner",.meth "Rights" "marks",.meth "Rights" "has_right",.meth "Commons" "need_right"]
def fa2:List He.Fa:=[.meth "Commons" "new_owner",.meth "Rights" "add_right",.glo "torn",.glo "lacks",.glo "offspring",.glo "apart",.glo "meet",.glo "first_free",.meth "Commons" "first_mark",.glo "tidied",.meth "Herd" "all_living",.meth "Herd" "grazing"]
def fa3:List He.Fa:=[.meth "Rights" "in_grounds",.meth "Commons" "standing_but",.meth "Commons" "standing",.meth "Grounds" "room",.meth "Commons" "room",.meth "Commons" "new_heir",.meth "Grounds" "add_ground",.meth "Commons" "new_ground",.glo "barring",.glo "joint",.glo "ask_room",.meth "Commons" "ask_ground"]
def fa4:List He.Fa:=[.glo "is_ear",.glo "need_ear",.meth "Commons" "enrol",.meth "Rights" "drop",.meth "Commons" "leave",.meth "Beast" "stand_so",.glo "begun",.mkr "Beast",.meth "Herd" "add_beast",.meth "Commons" "bring",.meth "Herd" "known",.meth "Herd" "living"]
def fa5:List He.Fa:=[.meth "Herd" "marked",.meth "Commons" "bear",.glo "deepened",.glo "gone_on",.meth "Beast" "befall",.meth "Commons" "cut",.meth "Commons" "tear",.meth "Herd" "calves",.meth "Herd" "lead_calves",.meth "Commons" "sell",.meth "Commons" "move",.meth "Commons" "die"]
def fa6:List He.Fa:=[.glo "clashing",.meth "Commons" "quarrels",.meth "Grounds" "enclose",.meth "Grounds" "unite",.meth "Commons" "unite",.meth "Grounds" "part",.meth "Commons" "part",.meth "Rights" "hand_over",.meth "Herd" "owned",.meth "Commons" "pass_on",.glo "part_fits",.glo "fits"]
def fa7:List He.Fa:=[.meth "Commons" "do",.glo "_law_done",.glo "_law_near",.glo "_law_mark_by",.glo "_law_ref",.glo "_law_deed",.glo "_law_play",.glo "_law_cell",.glo "_law_asked",.glo "_law_cut",.glo "_law_raw",.glo "_law_herd_bad"]
def fa8:List He.Fa:=[.glo "_law_befell",.glo "_law_due",.glo "_law_tell",.glo "_law_whole",.glo "_law_like",.glo "law",.glo "Grounds",.glo "Rights",.glo "Herd",.glo "Commons",.glo "Beast",.glo "NoGround"]
def fa9:List He.Fa:=[.exc "NoGround",.glo "NoOwner",.exc "NoOwner",.glo "NoRight",.exc "NoRight",.glo "HasRight",.exc "HasRight",.glo "NoneFree",.exc "NoneFree",.glo "BadExtra",.exc "BadExtra",.glo "BadAllowance"]
def amG:List He.Fa:=[.exc "BadAllowance",.glo "Clash",.glo "BadEar",.exc "BadEar",.glo "Bare",.exc "Bare",.glo "StillThere",.exc "StillThere",.glo "NoBeast",.exc "NoBeast",.glo "Dead",.exc "Dead"]
def amD:List He.Fa:=[.glo "Unmarked",.exc "Unmarked",.glo "Deepest",.exc "Deepest",.glo "NoPlace",.exc "NoPlace",.glo "SameOwner",.exc "SameOwner",.glo "SameGround",.exc "SameGround",.glo "Together",.exc "Together"]
def am7:List He.Fa:=[.glo "Alone",.exc "Alone",.glo "BadDeed",.exc "BadDeed",.glo "CommonError",.exc "CommonError",.glo "SHAPES",.int "GREATEST_DEPTH" 9,.int "FEWEST_EXTRA" 1,.int "MOST_EXTRA" 3,.int "GREATEST_ALLOWANCE" 9,.glo "PLACES"]
def amR:List He.Fa:=[.glo "BARE_EAR",.int "GREATEST_PART" 999999999,.free "tuple",.free "list",.free "len",.free "range",.free "abs",.free "max",.free "min",.free "sum",.free "zip",.free "any"]
def amu:List He.Fa:=[.free "sorted",.free "set",.free "enumerate",.free "all",.free "isinstance",.free "int",.free "bool",.free "str"]
def fa:List He.Fa:=fa0++fa1++fa2++fa3++fa4++fa5++fa6++fa7++fa8++fa9++amG++amD++am7++amR++amu
def fn0:List He.DefD:=[dM "Grounds" "__init__" "Grounds.__init__" Gm,dM "Rights" "__init__" "Rights.__init__" Jo,dM "Herd" "__init__" "Herd.__init__" M9,dM "Commons" "__init__" "Commons.__init__" Gf,dM "Beast" "stand" "Beast.stand" Ji,dM "Beast" "told" "Beast.told" Km,dM "Commons" "owners" "Commons.owners" Bu,dM "Rights" "all_rows" "Rights.all_rows" Am,dM "Grounds" "many" "Grounds.many" Fx,dM "Grounds" "has" "Grounds.has" Jq,dM "Grounds" "need" "Grounds.need" Fq,dM "Grounds" "allowance" "Grounds.allowance" xR]
def fn1:List He.DefD:=[dM "Grounds" "together" "Grounds.together" zB,dM "Commons" "together" "Commons.together" zp,dM "Commons" "look" "Commons.look" Gy,dF "_law_row" s_row,dF "_law_ear_by" X5,dF "_law_ear" afW,dF "_law_begun" M4,dF "_law_word_by" Vt,dM "Commons" "need_owner" "Commons.need_owner" v8,dM "Rights" "marks" "Rights.marks" Fw,dM "Rights" "has_right" "Rights.has_right" zP,dM "Commons" "need_right" "Commons.need_right" wF]
def fn2:List He.DefD:=[dM "Commons" "new_owner" "Commons.new_owner" xQ,dM "Rights" "add_right" "Rights.add_right" zQ,dF "torn" aeh,dF "lacks" aa7,dF "offspring" Nb,dF "apart" aaJ,dF "meet" aec,dF "first_free" KN,dM "Commons" "first_mark" "Commons.first_mark" wj,dF "tidied" Zw,dM "Herd" "all_living" "Herd.all_living" Ar,dM "Herd" "grazing" "Herd.grazing" Fl]
def fn3:List He.DefD:=[dM "Rights" "in_grounds" "Rights.in_grounds" xM,dM "Commons" "standing_but" "Commons.standing_but" uO,dM "Commons" "standing" "Commons.standing" zH,dM "Grounds" "room" "Grounds.room" Gq,dM "Commons" "room" "Commons.room" FJ,dM "Commons" "new_heir" "Commons.new_heir" zm,dM "Grounds" "add_ground" "Grounds.add_ground" v9,dM "Commons" "new_ground" "Commons.new_ground" xq,dF "barring" Vq,dF "joint" aaR,dF "ask_room" Qg,dM "Commons" "ask_ground" "Commons.ask_ground" wU]
def fn4:List He.DefD:=[dF "is_ear" Zf,dF "need_ear" Q5,dM "Commons" "enrol" "Commons.enrol" CP,dM "Rights" "drop" "Rights.drop" Jg,dM "Commons" "leave" "Commons.leave" Dq,dM "Beast" "stand_so" "Beast.stand_so" Bx,dF "begun" aaY,dM "Beast" "__init__" "Beast.__init__" KZ,dM "Herd" "add_beast" "Herd.add_beast" BZ,dM "Commons" "bring" "Commons.bring" CJ,dM "Herd" "known" "Herd.known" J5,dM "Herd" "living" "Herd.living" Jm]
def fn5:List He.DefD:=[dM "Herd" "marked" "Herd.marked" Jk,dM "Commons" "bear" "Commons.bear" Fb,dF "deepened" Pq,dF "gone_on" V1,dM "Beast" "befall" "Beast.befall" Gp,dM "Commons" "cut" "Commons.cut" Jj,dM "Commons" "tear" "Commons.tear" FW,dM "Herd" "calves" "Herd.calves" Jl,dM "Herd" "lead_calves" "Herd.lead_calves" zF,dM "Commons" "sell" "Commons.sell" Ey,dM "Commons" "move" "Commons.move" Fv,dM "Commons" "die" "Commons.die" Jh]
def fn6:List He.DefD:=[dF "clashing" QC,dM "Commons" "quarrels" "Commons.quarrels" zK,dM "Grounds" "enclose" "Grounds.enclose" Ay,dM "Grounds" "unite" "Grounds.unite" Dr,dM "Commons" "unite" "Commons.unite" DQ,dM "Grounds" "part" "Grounds.part" Gv,dM "Commons" "part" "Commons.part" Ew,dM "Rights" "hand_over" "Rights.hand_over" yX,dM "Herd" "owned" "Herd.owned" Kh,dM "Commons" "pass_on" "Commons.pass_on" Ao,dF "part_fits" MJ,dF "fits" adZ]
def fn7:List He.DefD:=[dM "Commons" "do" "Commons.do" JQ,dF "_law_done" acA,dF "_law_near" aeu,dF "_law_mark_by" U3,dF "_law_ref" af5,dF "_law_deed" adR,dF "_law_play" adT,dF "_law_cell" acp,dF "_law_asked" aaS,dF "_law_cut" afT,dF "_law_raw" af0,dF "_law_herd_bad" Rq]
def fn8:List He.DefD:=[dF "_law_befell" Ze,dF "_law_due" af8,dF "_law_tell" acU,dF "_law_whole" abg,dF "_law_like" Py,dF "law" Lw,dM "Clash" "__init__" "Clash.__init__" KD]
def fn:List He.DefD:=fn0++fn1++fn2++fn3++fn4++fn5++fn6++fn7++fn8
def exB(K:aqE):Bool:=true&&KY K jU&&xmB K xmH&&(Vd.all fun p=>xsH.contains p.1&&Uv K p.1 p.2)&&aeR K "SHAPES" yh&&He.tupB K "PLACES" [.str "lt",.str "lf",.str "lh",.str "rt",.str "rf",.str "rh"]&&He.tupB K "BARE_EAR" [.int 0,.int 0,.int 0,.int 0,.int 0,.int 0]
def ad0:List Addr:=[3,31,44,56,68,80,92,104,116,128,140,152,164,176,188,200,212,224,236,248,260,272,291,294]
def ad1:List Addr:=[295,300,307,314,319,364,447,452,472,479,484,489,494,501,508,513,596,605,610,670,681,686,693,698]
def ad2:List Addr:=[703,710,969,980,987,994,1001,1006,1013,1020,1027,1034,1041,1048,1055,1062,1069,1076,1083,1090,1097,1104,1111,1118]
def ad3:List Addr:=[1125,30,43,55,67,79,91,103,115,127,139,151,163,175,187,199,211,223,235,247,259,271,290,299]
def ad4:List Addr:=[306,313,318,363,446,453,454,455,456,457,458,459,460,461,462,463,464,465,466,467,471,478,483,488]
def ad5:List Addr:=[493,500,507,512,595,604,609,669,680,685,692,697,702,709,968,979,986,993,1000,1005,1012,1019,1026,1033]
def ad6:List Addr:=[1040,1047,1054,1061,1068,1075,1082,1089,1096,1103,1110,1117,1124,29,32,42,54,66,78,90,102,114,126,138]
def ad7:List Addr:=[150,162,174,186,198,210,222,234,246,258,270,288,289,333,340,347,354,361,362,365,366,382,389,396]
def ad8:List Addr:=[403,410,415,420,425,430,437,444,445,448,449,527,534,541,548,555,562,569,574,581,586,593,594,597]
def ad9:List Addr:=[598,624,631,638,643,650,657,662,667,668,671,672,724,731,738,745,750,757,764,771,778,785,792,799]
def amf:List Addr:=[806,813,818,825,832,839,846,853,860,867,872,879,886,893,900,907,914,919,926,933,938,945,952,959]
def ams:List Addr:=[966,967,970,971,287,332,339,346,353,360,381,388,395,402,409,414,419,424,429,436,443,526,533,540]
def ami:List Addr:=[547,554,561,568,573,580,585,592,623,630,637,642,649,656,661,666,723,730,737,744,749,756,763,770]
def aml:List Addr:=[777,784,791,798,805,812,817,824,831,838,845,852,859,866,871,878,885,892,899,906,913,918,925,932]
def amk:List Addr:=[937,944,951,958,965]
def ad:List Addr:=ad0++ad1++ad2++ad3++ad4++ad5++ad6++ad7++ad8++ad9++amf++ams++ami++aml++amk
abbrev R:PySem.W.OpenRow:=PySem.W.OpenLaw.row PySem.Challenge.rw_earmarks_k37_torn
abbrev hkE:PySem.W.Hook:=abH ad fa fn tbs exB
def obE(s:PySem.W.SharedT):He.AlX:=ab0 ad fa fn tbs exB (HandSHeadRun.getT s)
theorem akx(s:PySem.W.SharedT):obE s=hkE.obs s.abs:=ag7 (HandSHeadRun.getT_eq s)
abbrev wR(w:World)(b:Bool):World:=w.withFollow "special-get-raises" b
theorem alb(w:World):afs R (PySem.W.view R.prog [89]) ad exB 40000 nm (wR w false):=by
 intro os
 kernel_rfl
theorem alR(w:World):aeJ R ad fa fn tbs 40000 (wR w false):=by
 intro os
 kernel_rfl
theorem runAt(w:World):afs R (PySem.W.view R.prog [89]) ad exB 40000 nm (wR w true):=by
 intro os
 kernel_rfl
theorem alO(w:World):aeJ R ad fa fn tbs 40000 (wR w true):=by
 intro os
 kernel_rfl
theorem run(w:World):HandSHeadRun.RunEq R (PySem.W.view R.prog [89]) hkE obE 40000 nm w:=PySem.W.byRow2 "special-get-raises" (P:=fun w=>HandSHeadRun.RunEq R (PySem.W.view R.prog [89]) hkE obE 40000 nm w) (fun w=>Vm (alb w) (alR w)) (fun w=>Vm (runAt w) (alO w)) w
end Pr
namespace Ear
open PySem PySem.Spec PyProof.Rows L2 Evl RZ
section
variable{X:Cx}{C:Addr}{bmB:List Value}{B newId initId:String}
theorem afM{x:Str}{p pos:Pos}(F:ExcBaseFacts B newId initId bmB)(q:PySem.W.excIn X.K C bmB newId=true)(gC:X.mg x=some (.ref C))(kC:PySem.W.keepIn X.K (.ref C)=true)(r:Raises X (.ref C))(hg:Gl X x)
  (hn:(x==("__debug__" : Str))=false:=by decide):PMk X (.Call (.Name x p) [] [] pos) (fun _ H Q=>Q (.ref C) none H):=by
 intro pins s σ H Q I h
 refine wpAny_Call_Name_kw (ld_glob I hg gC ?_ hn)
 refine PySem.W.callWith_K0 I.kIn kC ?_
 show wpAny _ _ (call (.ref C) []) _ _ _
 obtain⟨bm,N,nm,qn,bs,hdct,sn,sub,ab,col,dd,k0,k1,k2,k3,k5,mN,hC,hN,hni,T⟩:=exc_obj I.kIn q
 refine wpAny_call_exc_subT F T hC hN hni (fun h' e hm=>?_) (arn _)
 exact mk_of I hm r h (I.hok.gone hm.new)
end
theorem exm_one{K:aqE}{S:Addr}(h1:PySem.W.subIn K (.ref S) (.type "BaseException")=some true)(h2:PySem.W.isClsIn K S=true)(h3:PySem.W.typeIn K (.ref S)=some (.type "type"))(h4:PySem.W.subIn K (.ref S) (.ref S)=some true) :
  PySem.W.exmOne K (.ref S) (.ref S)=some true:=by
 have e1:(PySem.W.subIn K (.ref S) (.type "BaseException")==some true)=true:=by rw[h1] <;> rfl
 have e2:((PySem.W.clsIn K S).isSome&&PySem.W.typeIn K (.ref S)==some (.type "type"))=true:=by
  rw[h3,aqF]
  exact⟨h2,rfl⟩
 show(if (PySem.W.subIn K (.ref S) (.type "BaseException")==some true)=true then(if ((PySem.W.clsIn K S).isSome&&PySem.W.typeIn K (.ref S)==some (.type "type"))=true then PySem.W.subIn K (.ref S) (.ref S) else none) else none)=some true
 rw[if_pos e1,if_pos e2]
 exact h4
def amY(xs:List Int):Prop:=xs.length=6/\∀x∈xs,0<=x/\x<=9
section
variable{K:aqE}{σ:L2.St}{H:Hp}{te tl:TE}{tt:TT}{vs:List Nat}
def EvS(te:TE)(σ:L2.St)(H:Hp)(P:V->Hp->Prop):Prop:=∀H1,Ex H H1->∀Q:VK,(∀v H2,Ex H1 H2->P v H2->Q v H2)->te σ H1 Q
end
section
variable{K:aqE}{σ:L2.St}{H H':Hp}{te ta tb:TE}{t:TT}{P R:V->Hp->Prop}{v:V}
theorem EvS.mono(e:Ex H H')(h:EvS te σ H P):EvS te σ H' P:=fun H1 a Q q=>h H1 (e.trans a) Q q
theorem EvS.imp(h:EvS te σ H P)(k:∀v H',P v H'->R v H'):EvS te σ H R:=fun H1 e Q q=>h H1 e Q fun v H2 e2 p=>q v H2 e2 (k v H2 p)
end
end Ear
namespace Ear
open PySem PySem.Spec PyProof.Rows L2 Evl RZ
def eV{α:Type}(R:V->α->Prop)(ws:List V)(L:List α):Prop:=ws.length=L.length/\∀(i:Nat) (v:V) (x:α),ws[i]?=some v->L[i]?=some x->R v x
theorem eV.imp{α:Type}{R S:V->α->Prop}{ws:List V}{L:List α}(h:eV R ws L)(k:∀v x,R v x->S v x):eV S ws L:=⟨h.1,fun i v x a b=>k v x (h.2 i v x a b)⟩
theorem eV.nil{α:Type}{R:V->α->Prop}:eV R [] []:=⟨rfl,fun i v x a _=>by simp at a⟩
theorem eV.snoc{α:Type}{R:V->α->Prop}{ws:List V}{L:List α}{v:V}{x:α}(h:eV R ws L)(k:R v x):eV R (ws++[v]) (L++[x]):=by
 refine⟨by rw[arj,arj,h.1];rfl,fun i u y a b=>?_⟩
 by_cases hi:i < ws.length
 ·rw[aqP hi]at a
  rw[aqP (by rw[←h.1];exact hi)]at b
  exact h.2 i u y a b
 ·rw[aqT (by omega)]at a
  rw[aqT (by rw[←h.1];omega),←h.1]at b
  have hj:i - ws.length=0:=by
   have:=(aqG.mp a).1
   simp only[aqS,List.length_nil]at this
   omega
  rw[hj]at a b
  cases a
  cases b
  exact k
def GJ(H:Hp)(v:V)(l:List Int):Prop:=∃h:Addr,v=.ref h/\H h=some (.tup (l.map V.int))
theorem GJ.mono{H H':Hp}(e:Ex H H'){v:V}{l:List Int}(h:GJ H v l):GJ H' v l:=by
 obtain⟨a,e1,h1⟩:=h
 exact⟨a,e1,e _ _ h1⟩
theorem GJ.upd{H:Hp}{D:Addr}{acc:List V}{o:HO}(hD:H D=some (.lst acc)){v:V}{l:List Int}(h:GJ H v l):GJ (upd H D o) v l:=by
 obtain⟨a,e1,h1⟩:=h
 refine⟨a,e1,?_⟩
 rw[upd_ne (fun z=>by rw[z,hD]at h1;cases h1)]
 exact h1
abbrev Rw:Type:=Int×List Int
def Lk(H:Hp)(v:V)(r:Rw):Prop:=∃t m:Addr,v=.ref t/\H t=some (.tup [.int r.1,.ref m])/\H m=some (.tup (r.2.map V.int))
theorem Lk.mono{H H':Hp}(e:Ex H H'){v:V}{r:Rw}(h:Lk H v r):Lk H' v r:=by
 obtain⟨t,m,e1,h1,h2⟩:=h
 exact⟨t,m,e1,e _ _ h1,e _ _ h2⟩
theorem Lk.upd{H:Hp}{D:Addr}{acc:List V}{o:HO}(hD:H D=some (.lst acc)){v:V}{r:Rw}(h:Lk H v r):Lk (upd H D o) v r:=by
 obtain⟨t,m,e1,h1,h2⟩:=h
 refine⟨t,m,e1,?_,?_⟩
 ·rw[upd_ne (fun z=>by rw[z,hD]at h1;cases h1)]
  exact h1
 ·rw[upd_ne (fun z=>by rw[z,hD]at h2;cases h2)]
  exact h2
def alf(r:Rw):Prop:=1<=r.1/\amY r.2
structure Tab(R:List Rw):Prop where
 len:R.length<=128
 ok:∀r∈R,alf r
 few:∃D:List Rw,D.length<=64/\∀r∈R,r∈D
theorem Tab.sub{R S:List Rw}(h:Tab R)(hs:∀r∈S,r∈R)(hl:S.length<=128):Tab S:=by
 obtain⟨D,d1,d2⟩:=h.few
 exact⟨hl,fun r hr=>h.ok r (hs r hr),D,d1,fun r hr=>d2 r (hs r hr)⟩
theorem eV.get{α:Type}{R:V->α->Prop}{ws:List V}{L:List α}(h:eV R ws L){i:Nat}{v:V}(g:ws[i]?=some v):∃x,L[i]?=some x/\R v x:=by
 have hi:=(aqG.mp g).1
 have hi':i < L.length:=by
  rw[←h.1]
  exact hi
 exact⟨L[i],aqH hi',h.2 i v _ g (aqH hi')⟩
theorem eV.mem{α:Type}{R:V->α->Prop}{ws:List V}{L:List α}(h:eV R ws L){v:V}(m:v∈ws):∃x,x∈L/\R v x:=by
 obtain⟨i,hi,e⟩:=List.getElem_of_mem m
 obtain⟨x,g,r⟩:=h.get (aqG.mpr ⟨hi,e⟩)
 exact⟨x,aqM g,r⟩
theorem eV.take{α:Type}{R:V->α->Prop}{ws:List V}{L:List α}(h:eV R ws L)(n:Nat):eV R (ws.take n) (L.take n):=by
 refine⟨by rw[List.length_take,List.length_take,h.1],fun i v x a b=>?_⟩
 rw[List.getElem?_take]at a b
 by_cases c:i < n
 ·rw[if_pos c]at a b
  exact h.2 i v x a b
 ·rw[if_neg c]at a
  cases a
theorem eV.drop{α:Type}{R:V->α->Prop}{ws:List V}{L:List α}(h:eV R ws L)(n:Nat):eV R (ws.drop n) (L.drop n):=by
 refine⟨by rw[arT,arT,h.1],fun i v x a b=>?_⟩
 rw[List.getElem?_drop]at a b
 exact h.2 _ v x a b
section
variable{X:Cx}
def ae7(xs:List V)(ds:List PyData)(x:V)(d:PyData):Prop:=∃i:Nat,xs[i]?=some x/\ds[i]?=some d
@[irreducible]def HX (K:aqE):List V->Hp->VK->Prop:=fun vs H Q=>∃(a:Addr) (xs:List V) (ds:List PyData),vs=[V.ref a]/\SqL K H a xs/\DpAll K H xs ds/\PySem.W.AllAlike ds/\PySem.W.Sortable ds/\(∀d∈ds,d.depth<=60)/\
 ∀(ys:List V) (p:Addr),eV (ae7 xs ds) ys (ds.mergeSort (PySem.W.dataLe false id))->H p=none->Q (.ref p) (upd H p (.lst ys))
theorem ZK:∀(xs:List V) (ds:List PyData) (its:List Value) (P:Value->PyData->Prop),Vals xs its->PySem.W.EachIs P its ds->
  PySem.W.EachIs (fun v d=>∃(i:Nat) (x:V),RelV x v/\xs[i]?=some x/\ds[i]?=some d) its ds
 |[],_,_,_,.nil,.nil=>.nil
 |_::_,[],_,_,.cons _ _,k=>nomatch k
 |x::xs,d::ds,u::us,P,.cons r t,.cons _ k=>.cons ⟨0,x,r,rfl,rfl⟩ ((ZK xs ds us P t k).mono fun v d ⟨i,y,a,b,c⟩=>⟨i+1,y,a,b,c⟩)
theorem VN{xs:List V}{ds:List PyData}:∀(out:List Value) (L:List PyData),PySem.W.EachIs (fun v d=>∃(i:Nat) (x:V),RelV x v/\xs[i]?=some x/\ds[i]?=some d) out L->∃ys,Vals ys out/\eV (ae7 xs ds) ys L
 |[],[],.nil=>⟨[],.nil,eV.nil⟩
 |v::out,d::L,.cons ⟨i,x,r,a,b⟩ k=>by
  obtain⟨ys,h1,h2⟩:=VN out L k
  refine⟨x::ys,.cons r h1,by rw[aqS,aqS,h2.1],fun j u y g1 g2=>?_⟩
  cases j with
  |zero=>
   cases g1
   cases g2
   exact⟨i,a,b⟩
  |succ j=>exact h2.2 j u y g1 g2
theorem abK(hu:X.A.units+65 < cLine):CallR X (.builtin "sorted") (HX X.K):=by
 intro pins s σ H vs us Q I r h
 unfold HX at h
 obtain⟨a,xs,ds,rfl,hs,hd,hal,hk,hz,q⟩:=h
 obtain⟨u,rfl,ru⟩:=vals1 r
 obtain rfl:u=Value.ref a:=ru
 obtain⟨its,rv,hl,hsz⟩:=I.list hs
 obtain⟨as,hr⟩:=Dp.readsAll I ds xs its hd rv
 have er:PySem.W.EachIs (fun v d=>∃as,Reads s.heap v (id d) as) its ds:=PySem.W.readsAll_each id (by rw[List.map_id];exact hr)
 have hn:=SeqAt.ReadsAll.length ds its as hr
 have hl2:=rv.length
 refine PySem.W.sorted_data (enc:=id) hl.isList (ZK xs ds its _ rv er) er (by rw[List.map_id];exact hal) (by rw[List.map_id];exact hk) (by omega) (fun d m=>?_) fun out hlen hout=>?_
 ·have:=hz d m
  show X.A.units+2+d.depth < cLine
  omega
 ·obtain⟨ys,v1,v2⟩:=VN out _ hout
  obtain⟨ep,he'⟩:=PyProof.Rows.sortedAll_at s.heap its out.toArray
  have hy:ys.length=ds.length:=by
   rw[v2.1,List.length_mergeSort]
  refine⟨.ref _,upd H (s.heap.objs.size+1) (.lst ys),I.laid (t':=s.toks) (fun _ _=>PyProof.Rows.sortedAll_old) (Nat.le_succ _) ⟨by omega,out,ep,v1,by simpa using he'⟩,rfl,q ys _ v2 (I.hok.fresh (Nat.le_succ _))⟩
end
@[irreducible]def Pj (K:aqE):R2:=fun x y H Q=>∃d e:PyData,Dp K H x d/\Dp K H y e/\PySem.W.alike d e=true/\d≠.none/\d.depth<=60/\Q (.bl (PySem.W.dataLt d e)) H
theorem aeX{X:Cx}(hu:X.A.units+65 < cLine):OpR X (compareOp .Lt) (Pj X.K):=by
 intro pins s σ H x y v u Q I rx ry h
 unfold Pj at h
 obtain⟨d,e,hd,he,ha,hn,hz,q⟩:=h
 obtain⟨as,r1⟩:=Dp.reads I d x v hd rx
 obtain⟨bs,r2⟩:=Dp.reads I e y u he ry
 exact PySem.W.lt_data r1 r2 ha hn (by omega) ⟨.bl _,H,I,rfl,q⟩
def EvR(te:TE)(σ:L2.St)(H:Hp)(P:List V->Hp->Prop):Prop:=∀H1,Ex H H1->∀Q:VK,(∀p H2 us,Ex H1 H2->H2 p=some (.lst us)->P us H2->Q (.ref p) H2)->te σ H1 Q
def EvM(te:TE)(σ:L2.St)(H:Hp)(P:List V->Hp->Prop):Prop:=∀H1,Ex H H1->∀Q:VK,(∀p H2 us,H1 p=none->Ex H1 H2->H2 p=some (.lst us)->P us H2->Q (.ref p) H2)->te σ H1 Q
structure ajg{α:Type}(Rel:Hp->V->α->Prop):Prop where
 mono:∀{H H':Hp} {v:V} {x:α},Ex H H'->Rel H v x->Rel H' v x
 upd:∀{H:Hp} {D:Addr} {acc:List V} {o:HO} {v:V} {x:α},H D=some (.lst acc)->Rel H v x->Rel (upd H D o) v x
theorem eV.mono{α:Type}{Rel:Hp->V->α->Prop}(S:ajg Rel){H H':Hp}(e:Ex H H'){ws:List V}{L:List α}(h:eV (Rel H) ws L):eV (Rel H') ws L:=h.imp fun _ _ r=>S.mono e r
theorem eV.upd{α:Type}{Rel:Hp->V->α->Prop}(S:ajg Rel){H:Hp}{D:Addr}{acc:List V}{o:HO}(hD:H D=some (.lst acc)){ws:List V}{L:List α}(h:eV (Rel H) ws L):eV (Rel (upd H D o)) ws L:=h.imp fun _ _ r=>S.upd hD r
section
variable{K:aqE}{σ:L2.St}{H:Hp}{te tl:TE}{tt:TT}{vs:List Nat}{α:Type}
theorem EvM.r{P:List V->Hp->Prop}(h:EvM te σ H P):EvR te σ H P:=fun H1 e Q q=>h H1 e Q fun p H2 us _ a b c=>q p H2 us a b c
theorem EvM.imp{P R:List V->Hp->Prop}(h:EvM te σ H P)(k:∀us H',P us H'->R us H'):EvM te σ H R:=fun H1 e Q q=>h H1 e Q fun p H2 us n a b c=>q p H2 us n a b (k us H2 c)
end
theorem Xe:∀a b:List Int,PyData.eqvAll (a.map PyData.int) (b.map PyData.int)=decide (a=b)
 |[],[]=>by rw[arK,PyData.eqvAll];rfl
 |[],y::ys=>by rw[arK,aqI,PyData.eqvAll];rfl
 |x::xs,[]=>by rw[arK,aqI,PyData.eqvAll];rfl
 |x::xs,y::ys=>by
  rw[aqI,aqI,PyData.eqvAll,Xe xs ys,PyData.eqv,arN]
  simp
def dT(l:List Int):PyData:=.tuple (l.map PyData.int)
theorem lay_ints:∀l:List Int,PyData.canLayAll0 (l.map PyData.int)=true/\PyData.depthAll (l.map PyData.int)=0
 |[]=>⟨by rw[arK,PyData.canLayAll0],by rw[arK,PyData.depthAll]⟩
 |x::xs=>by
  have ih:=lay_ints xs
  refine⟨?_,?_⟩
  ·rw[aqI,PyData.canLayAll0,PyData.canLay0,ih.1]
   rfl
  ·rw[aqI,PyData.depthAll,PyData.depth,ih.2]
   rfl
def rD(r:Rw):PyData:=.tuple [.int r.1,dT r.2]
theorem ac8(r:Rw):(rD r).canLay0=true/\(rD r).depth=2:=by
 have h:=lay_ints r.2
 unfold rD dT
 refine⟨?_,?_⟩
 ·rw[PyData.canLay0,PyData.canLayAll0,PyData.canLayAll0,PyData.canLayAll0,PyData.canLay0,PyData.canLay0,h.1]
  rfl
 ·rw[PyData.depth,PyData.depthAll,PyData.depthAll,PyData.depthAll,PyData.depth,PyData.depth,h.2]
  rfl
def rk(r:Rw):List Int:=r.1::r.2
theorem adV:PySem.W.rowLt [] []=false:=PyProof.Rows.lex_irrefl _
theorem ahJ(l m:List Int):PySem.W.rowLt [dT l] [dT m]=decide (l < m):=by
 have al:PySem.W.alike (dT l) (dT m)=true:=by
  unfold dT
  rw[PySem.W.alike]
  exact PySem.W.alike_ints l m
 have ev:PyData.eqv (dT l) (dT m)=decide (l=m):=by
  unfold dT
  rw[PyData.eqv,Xe]
 have h:PySem.W.rowLt [dT l] [dT m]=if PyData.eqv (dT l) (dT m)=true then PySem.W.rowLt [] [] else PySem.W.dataLt (dT l) (dT m):=PySem.W.dataLt_cons al [] []
 rw[h,ev,adV]
 by_cases c:l=m
 ·rw[if_pos (decide_eq_true c),c]
  exact(decide_eq_false (List.lt_irrefl _)).symm
 ·rw[if_neg (by rw[decide_eq_true_eq];exact c)]
  show PySem.W.dataLt (.tuple (l.map PyData.int)) (.tuple (m.map PyData.int))=_
  rw[PySem.W.dataLt_tuple]
  exact PySem.W.dataLt_ints l m
theorem aaf(x y:Int)(ds es:List PyData)(l m:List Int)(h:PySem.W.rowLt ds es=decide (l < m)):PySem.W.rowLt (.int x::ds) (.int y::es)=decide (x::l < y::m):=by
 have al:PySem.W.alike (.int x) (.int y)=true:=by rw[PySem.W.alike]
 have h2:PySem.W.rowLt (.int x::ds) (.int y::es)=if PyData.eqv (.int x) (.int y)=true then PySem.W.rowLt ds es else PySem.W.dataLt (.int x) (.int y):=PySem.W.dataLt_cons al ds es
 rw[h2,h,PySem.W.dataLt_int,PyData.eqv]
 by_cases c:x=y
 ·subst c
  rw[if_pos (by simp),arN,decide_eq_true_eq,decide_eq_true_eq,List.cons_lt_cons_iff]
  constructor
  ·exact fun k=>Or.inr ⟨rfl,k⟩
  ·rintro(k|k)
   ·omega
   ·exact k.2
 ·rw[if_neg (by simpa using c),arN,decide_eq_true_eq,decide_eq_true_eq,List.cons_lt_cons_iff]
  constructor
  ·exact Or.inl
  ·rintro(k|k)
   ·exact k
   ·exact absurd k.1 c
theorem aji(a b:Rw):PySem.W.dataLt (rD a) (rD b)=decide (rk a < rk b):=by
 unfold rD
 rw[PySem.W.dataLt_tuple]
 exact aaf _ _ _ _ _ _ (ahJ a.2 b.2)
theorem UL(a b:Rw):PySem.W.alike (rD a) (rD b)=true:=by
 unfold rD dT
 rw[PySem.W.alike,PySem.W.alikeAll,PySem.W.alikeAll,PySem.W.alike,PySem.W.alike,PySem.W.alike_ints,PySem.W.alikeAll]
 rfl
theorem eV.map{α β:Type}{P:V->β->Prop}(f:α->β){ws:List V}{L:List α}(h:eV (fun v x=>P v (f x)) ws L):eV P ws (L.map f):=by
 refine⟨by rw[aqO,h.1],fun i v x a b=>?_⟩
 rw[aqQ]at b
 obtain⟨y,hy,e⟩:=arx.mp b
 rw[←e]
 exact h.2 i v y a hy
theorem ac6{a b:Rw}(h:rk a=rk b):a=b:=by
 unfold rk at h
 injection h with h1 h2
 exact Prod.ext h1 h2
def UW(S:List Rw):Prop:=S.Pairwise fun a b=>rk a < rk b
theorem acQ:∀{S T:List Rw},UW S->UW T->(∀r,r∈S↔r∈T)->S=T
 |[],[],_,_,_=>rfl
 |[],t::T,_,_,h=>absurd ((h t).mpr aqK) (by simp)
 |s::S,[],_,_,h=>absurd ((h s).mp aqK) (by simp)
 |s::S,t::T,hs,ht,h=>by
  obtain⟨hs1,hs2⟩:=List.pairwise_cons.mp hs
  obtain⟨ht1,ht2⟩:=List.pairwise_cons.mp ht
  have e:s=t:=by
   rcases aqV.mp ((h s).mp aqK) with e|m
   ·exact e
   ·rcases aqV.mp ((h t).mpr aqK) with e2|m2
    ·exact e2.symm
    ·exact absurd (ht1 s m) (List.lt_asymm (hs1 t m2))
  subst e
  have hn:∀{L:List Rw},(∀r∈L,rk s < rk r)->s∉L:=fun hL m=>List.lt_irrefl _ (hL s m)
  rw[acQ hs2 ht2 fun r=>?_]
  constructor
  ·intro m
   rcases aqV.mp ((h r).mp (aqJ _ m)) with e|m2
   ·rw[e]at m
    exact absurd m (hn hs1)
   ·exact m2
  ·intro m
   rcases aqV.mp ((h r).mpr (aqJ _ m)) with e|m2
   ·rw[e]at m
    exact absurd m (hn ht1)
   ·exact m2
theorem Kw(a b:Rw):PySem.W.dataLe false rD a b=decide (rk a<=rk b):=by
 show(!PySem.W.dataLt (rD b) (rD a))=_
 rw[aji,arN,aqY,decide_eq_false_iff_not,decide_eq_true_eq]
 exact List.not_lt
theorem acw{α β:Type}{R:α->β->Prop}{as cs:List α}(p:as.Perm cs):∀{bs:List β},PySem.W.EachIs R as bs->∃ds,ds.Perm bs/\PySem.W.EachIs R cs ds:=by
 induction p with
 |nil=>
  intro bs h
  cases h
  exact⟨[],List.Perm.refl _,.nil⟩
 |cons x _ ih=>
  intro bs h
  cases h with
  |cons r t=>
   obtain⟨ds,h1,h2⟩:=ih t
   exact⟨_::ds,h1.cons _,.cons r h2⟩
 |swap x y l=>
  intro bs h
  cases h with
  |cons r t=>
   cases t with
   |cons r2 t2=>exact⟨_,List.Perm.swap _ _ _,.cons r2 (.cons r t2)⟩
 |trans _ _ ih1 ih2=>
  intro bs h
  obtain⟨ds,a1,a2⟩:=ih1 h
  obtain⟨es,b1,b2⟩:=ih2 a2
  exact⟨es,b1.trans a1,b2⟩
section
variable{P:Program}{w:World}{A:Around}{E:Value->Shared->Prop}{s:Shared}
theorem aar{β:Type}{a:Addr}{es:Array (Int×Value)}{ep:Nat}{t:SetTable}{enc:β->PyData}{bs:List β}{R:Value->β->Prop}{Q:Value->Shared->Prop}(hh:A.handled=none)(ha:SetAt s.heap a es ep t)(hf:t.fits es.size=true)(hsz:es.size < scanBound)(hr:Ris t.place.toList)
  (hl:w.params.followText "set-order"=true∨t.led=true) (e:PySem.W.EachIs (fun v b=>R v b/\∃as,Reads s.heap v (enc b) as) (es.toList.map (·.2)) bs) (hal:PySem.W.AllAlike (bs.map enc)) (hk:PySem.W.Sortable (bs.map enc)) (hu:∀b∈bs,A.units+2+(enc b).depth < cLine)
  (hQ:∀(s':Shared) (p:Addr) (out:List Value) (c:Nat) (cs:List β),(∀b o,s.heap.get? b=some o->s'.heap.get? b=some o)->s'.gens=s.gens->s'.os=s.os->s.heap.objs.size<=p->s'.heap.get? p=some (seqObj "list" out.toArray c)->
   cs.Perm bs->PySem.W.EachIs R out (cs.mergeSort (PySem.W.dataLe false enc))->Q (.ref p) s') :
  wpAny (model P w) A (call (.builtin "sorted") [.ref a]) Q E s:=by
 refine Calls.call_function_entry kind_sorted plain_sorted entry_sorted (args_sorted1 _) ?_
 unfold Builtin.«sorted»
 refine wpAny_bind (m:=checkCount "sorted" 1 1 _) (wpAny_pure ?_)
 refine wpAny_bind (collect_set (A:=A.in1) hh ha hf hsz hr hl fun t1 vals kept grown g1 o1 pm=>?_)
 obtain⟨cs,pc,ec⟩:=acw pm.symm e
 have lc:vals.length=cs.length:=ec.length
 have lb:cs.length=bs.length:=pc.length_eq
 have lz:vals.length<=sizeLine:=by
  rw[pm.length_eq,aqO,ari,sizeLine_eq]
  unfold scanBound at hsz
  omega
 refine wpAny_bind (wpAny_newList ?_ lz)
 have here:(t1.heap.push (seqObj "list" vals.toArray 0)).get? t1.heap.objs.size=some (seqObj "list" vals.toArray 0):=Heap.get?_push_size _ rfl
 have stays:∀b o,s.heap.get? b=some o->(t1.heap.push (seqObj "list" vals.toArray 0)).get? b=some o:=fun b o q=>Heap.get?_push_of_some _ (kept b o q)
 have al:PySem.W.AllAlike (cs.map enc):=fun d hd d' hd'=>hal d ((pc.map enc).mem_iff.mp hd) d' ((pc.map enc).mem_iff.mp hd')
 have sk:PySem.W.Sortable (cs.map enc):=by
  rcases hk with k|k
  ·exact .inl fun d hd=>k d ((pc.map enc).mem_iff.mp hd)
  ·exact .inr fun d hd=>k d ((pc.map enc).mem_iff.mp hd)
 refine wpAny_bind (wpAny_holding (PySem.W.list_sort_data (s:={ t1 with heap:=t1.heap.push (seqObj "list" vals.toArray 0) }) (enc:=enc) here (ec.mono fun v b h=>h.1) (ec.mono fun v b ⟨_,as,r⟩=>⟨as,PySem.W.reads_keeps stays r,fun m=>?rd⟩) al sk (by omega) (fun b hb=>?un) fun out lo eo=>?fin))
 case rd=>
  obtain⟨o,q⟩:=PyProof.On.reads_mem_get r _ m
  have hlt:t1.heap.objs.size < s.heap.objs.size:=Heap.lt_size q
  exact absurd grown (Nat.not_le_of_lt hlt)
 case fin=>
  obtain⟨c,hc⟩:=sortedHeap_at (vs:=vals) (out:=out.toArray) here
  refine wpAny_pure ⟨_,rfl,hQ _ t1.heap.objs.size out c cs (fun b o q=>?_) g1 o1 grown hc pc eo⟩
  have hlt:=Heap.lt_size (kept b o q)
  show(sortedHeap (t1.heap.push (seqObj "list" vals.toArray 0)) t1.heap.objs.size vals out.toArray).get? b=some o
  rw[sortedHeap_old (ard hlt) (by rw[size_push'];exact arH hlt)]
  exact stays b o q
 case un=>
  have:=hu b (pc.mem_iff.mp hb)
  show A.in1.units+1+_ < _
  have e1:A.in1.units=A.units+1:=rfl
  omega
end
section
variable{P:Program}{w:World}{A:Around}{E:Value->Shared->Prop}{s:Shared}
def nk(r:Rw):NestedKey:=.tup [.num r.1,.tup (r.2.map .num)]
theorem Zv:∀a b:List Int,a.map NestedKey.num=b.map NestedKey.num->a=b
 |[],[],_=>rfl
 |[],_::_,h=>by cases h
 |_::_,[],h=>by cases h
 |x::a,y::b,h=>by
  rw[aqI,aqI]at h
  injection h with h1 h2
  injection h1 with h1
  rw[h1,Zv a b h2]
theorem acX{a b:Rw}(h:nk a=nk b):a=b:=by
 unfold nk at h
 injection h with h
 injection h with h1 h
 injection h with h2 _
 injection h1 with h1
 injection h2 with h2
 exact Prod.ext h1 (Zv _ _ h2)
theorem Qp:∀l:List Int,NestedKey.depthAll (l.map .num)=0
 |[]=>by rw[arK,NestedKey.depthAll]
 |x::l=>by
  rw[aqI,NestedKey.depthAll,NestedKey.depth,Qp l]
  rfl
theorem aex(r:Rw):(nk r).depth=2:=by
 unfold nk
 rw[NestedKey.depth,NestedKey.depthAll,NestedKey.depthAll,NestedKey.depthAll,NestedKey.depth,NestedKey.depth,Qp]
 rfl
def ni(P:Program)(w:World):HeapKind P w Rw where
 is:=fun h r a=>(nestedKind P w).is h (nk r) a
 hash:=fun r=>(nestedKind P w).hash (nk r)
 draws:=fun r=>(nestedKind P w).draws (nk r)
 room:=(nestedKind P w).room
 inj:=fun hx hy=>acX ((nestedKind P w).inj hx hy)
 keeps:=fun x ho hd hs=>(nestedKind P w).keeps x ho hd hs
 pyHash:=fun hu hk h=>(nestedKind P w).pyHash hu hk h
 eqBool:=fun {A E s x y a b Q} hu hx hy h=>(nestedKind P w).eqBool hu hx hy (by
  have e:decide (nk x=nk y)=decide (x=y):=by
   rw[decide_eq_decide]
   exact⟨acX,fun h=>by rw[h]⟩
  rw[e]
  exact h)
 quiet:=fun hk h=>(nestedKind P w).quiet hk h
abbrev RI(h:Heap)(r:Rw)(a:Addr):Prop:=NestedIs h (nk r) (.ref a)/\(nk r).depth<=8
theorem Tg{h h':Heap}{r:Rw}{a:Addr}(x:RI h r a)(k:∀c o,h.get? c=some o->h'.get? c=some o):RI h' r a:=⟨NestedIs.at (fun b o _ _ e _=>k b o e) _ _ x.1,x.2⟩
theorem XS{h h':Heap}{r:Rw}{a d:Addr}{o:Obj}{es:Array (Int×Value)}{ep:Nat}{t:SetTable}(x:RI h r a)(ho:h.get? d=some o)(hd:o.data=.set es ep t)(sb:Heap.SameBut d h h'):RI h' r a:=by
 refine⟨NestedIs.at (fun b ob vs n hb hc=>(sb.2 b fun e=>?_).trans hb) _ _ x.1,x.2⟩
 subst e
 obtain rfl:ob=o:=aq0 (hb.symm.trans ho)
 rw[hd]at hc
 cases hc
theorem Hv{h:Heap}{i:Int}{v:Value}(x:NestedIs h (.num i) v)(n:Nat):ofAClassStatement n v=pure false/\hashByValue n v=pure true:=by
 cases x with
 |bool _=>cases n <;> exact⟨rfl,rfl⟩
 |int _ t=>cases n <;> exact⟨rfl,rfl⟩
theorem YB{h:Heap}:∀(l:List Int) (vs:List Value),NestedAll h (l.map .num) vs->∀v∈vs,∃i,NestedIs h (.num i) v
 |[],_,x,v,hv=>by
  cases x
  cases hv
 |i::l,_,x,v,hv=>by
  rw[aqI]at x
  cases x with
  |cons x1 x2=>
   rcases aqV.mp hv with e|hv
   ·exact⟨i,by rw[e];exact x1⟩
   ·exact YB l _ x2 v hv
theorem abd{n:Nat}{a:Addr}{o:Obj}{vs:Array Value}{m:Nat}(ho:s.heap.get? a=some o)(hc:o.cls=.type "tuple")(hd:o.data=.seq vs m)(hq:∀v∈vs.toList,∀(E:Value->Shared->Prop) (Q:Bool->Shared->Prop),Q false s->wpAny (model P w) A (ofAClassStatement n v) Q E s){Q:Bool->Shared->Prop}(q:Q false s) :
  wpAny (model P w) A (ofAClassStatement (n+1) (.ref a)) Q E s:=by
 have hT:s.TypeIs (.ref a) "tuple":=⟨o,ho,hc⟩
 unfold ofAClassStatement
 refine wpAny_bind (wpAny_typeOf hT ?_)
 dsimp only
 have eq1:(("tuple" : String)=="tuple")=true:=by decide
 simp only[eq1,if_true,Bool.not_true,aq9,if_false]
 try refine wpAny_bind (wpAny_pure ?_)
 try simp only[Bool.not_true,aq9,if_false]
 refine wpAny_bind (wpAny_seqItems ho hd ?_)
 dsimp only
 refine wpAny_bind ?_
 rw[←Array.forIn_toList]
 refine wpAny_forIn_list _ (fun left r u=>r.1=none/\u=s/\∀v∈left,v∈vs.toList) _ ?_ ?_ _ _ ⟨rfl,rfl,fun v hv=>hv⟩
 ·rintro v left r u ⟨hr,rfl,hall⟩
  refine wpAny_bind (hq v (hall v aqK) _ _ ?_)
  simp only[aq9,if_false]
  exact wpAny_pure ⟨rfl,rfl,fun y hy=>hall y (aqJ _ hy)⟩
 ·rintro⟨r1,r2⟩ u ⟨hr,rfl,_⟩
  simp only at hr
  subst hr
  exact wpAny_pure q
theorem Yj{n:Nat}{a:Addr}{o:Obj}{vs:Array Value}{m:Nat}(ho:s.heap.get? a=some o)(hc:o.cls=.type "tuple")(hd:o.data=.seq vs m)(hq:∀v∈vs.toList,∀(E:Value->Shared->Prop) (Q:Bool->Shared->Prop),Q true s->wpAny (model P w) A (hashByValue n v) Q E s){Q:Bool->Shared->Prop}(q:Q true s) :
  wpAny (model P w) A (hashByValue (n+1) (.ref a)) Q E s:=by
 have hT:s.TypeIs (.ref a) "tuple":=⟨o,ho,hc⟩
 unfold hashByValue
 refine wpAny_bind (wpAny_specialOf hT PySem.F.slot_tuple_hash.lookup ?_)
 show wpAny _ _ (seqItems? (.ref a) >>= _) _ _ s
 refine wpAny_bind (wpAny_seqItems ho hd ?_)
 refine wpAny_bind ?_
 show wpAny _ _ (forIn vs _ _) _ _ s
 rw[←Array.forIn_toList]
 refine wpAny_forIn_list _ (fun left r u=>r.1=none/\u=s/\∀v∈left,v∈vs.toList) _ ?_ ?_ _ _ ⟨rfl,rfl,fun v hv=>hv⟩
 ·rintro v left r u ⟨hr,rfl,hall⟩
  refine wpAny_bind (hq v (hall v aqK) _ _ ?_)
  simp only[Bool.not_true,aq9,if_false]
  exact wpAny_pure ⟨rfl,rfl,fun y hy=>hall y (aqJ _ hy)⟩
 ·rintro⟨r1,r2⟩ u ⟨hr,rfl,_⟩
  simp only at hr
  subst hr
  exact wpAny_pure q
theorem Iw{r:Rw}{a:Addr}(x:RI s.heap r a):(∀{Q:Bool->Shared->Prop},Q false s->wpAny (model P w) A (ofAClassStatement 8 (.ref a)) Q E s)/\∀{Q:Bool->Shared->Prop},Q true s->wpAny (model P w) A (hashByValue 8 (.ref a)) Q E s:=by
 obtain⟨x,_⟩:=x
 unfold nk at x
 cases x with
 | @tup _ o vs m _ ho hc hd x=>
  have items:∀v∈vs.toList,(∃i,NestedIs s.heap (.num i) v)∨∃b,v=.ref b/\∃o us k,s.heap.get? b=some o/\o.cls=.type "tuple"/\o.data=.seq us k/\∀u∈us.toList,∃i,NestedIs s.heap (.num i) u:=by
   generalize vs.toList=l at x
   cases x with
   |cons x1 x=>
    cases x with
    |cons x2 x=>
     cases x
     intro v hv
     rcases aqV.mp hv with e|hv
     ·exact Or.inl ⟨_,by rw[e];exact x1⟩
     ·have e:=aqL.mp hv
      cases x2 with
      |tup k1 k2 k3 k4=>exact Or.inr ⟨_,e,_,_,_,k1,k2,k3,YB _ _ k4⟩
  refine⟨fun q=>abd ho hc hd (fun v hv E' Q' q'=>?_) q,fun q=>Yj ho hc hd (fun v hv E' Q' q'=>?_) q⟩
  ·rcases items v hv with⟨i,y⟩|⟨b,rfl,o',us,k,k1,k2,k3,k4⟩
   ·rw[(Hv y 7).1]
    exact wpAny_pure q'
   ·refine abd k1 k2 k3 (fun u hu E2 Q2 q2=>?_) q'
    obtain⟨i,y⟩:=k4 u hu
    rw[(Hv y 6).1]
    exact wpAny_pure q2
  ·rcases items v hv with⟨i,y⟩|⟨b,rfl,o',us,k,k1,k2,k3,k4⟩
   ·rw[(Hv y 7).2]
    exact wpAny_pure q'
   ·refine Yj k1 k2 k3 (fun u hu E2 Q2 q2=>?_) q'
    obtain⟨i,y⟩:=k4 u hu
    rw[(Hv y 6).2]
    exact wpAny_pure q2
end
abbrev Ent:Type:=Addr×Rw
section
variable{P:Program}{w:World}{A:Around}{E:Value->Shared->Prop}{s:Shared}
def ents(hf:Rw->Int)(L:List Ent):List (Int×Value):=L.map fun p=>(hf p.2,Value.ref p.1)
structure qj(hf:Rw->Int)(w:World)(h:Heap)(a:Addr)(L:List Ent)(es:Array (Int×Value))(ep:Nat)(t:SetTable):Prop where
 ob:∃o,h.get? a=some o/\o.ExactSet/\o.data=.set es ep t
 en:es.toList=ents hf L
 tab:TabOk t (L.map fun p=>hf p.2)
 nd:(L.map Prod.snd).Nodup
 ky:∀p∈L,RI h p.2 p.1
 pl:t.plain=true
 ld:w.params.followText "set-order"=true∨t.led=true
 free:L.length * 5 < t.mask * 3
 few:L.length<=76
variable{hf:Rw->Int}{a:Addr}{L:List Ent}{es:Array (Int×Value)}{ep:Nat}{t:SetTable}
theorem yj(h:es.toList=ents hf L):es.size=L.length:=by
 rw[←ari,h]
 exact aqO _
theorem LK(h:es.toList=ents hf L){i:Nat}{p:Ent}(g:L[i]?=some p):es[i]?=some (hf p.2,Value.ref p.1):=by
 rw[←aro,h]
 unfold ents
 rw[aqQ,g]
 rfl
theorem fits_of(h1:t.place.size=es.size)(h2:t.dummies=#[])(h3:es.size<=t.mask):t.fits es.size=true:=by
 unfold SetTable.fits SetTable.fill
 rw[h2,aqF,beq_iff_eq,decide_eq_true_eq]
 exact⟨h1,by show t.place.size+0<=t.mask;omega⟩
theorem qj.fits(R:qj hf w s.heap a L es ep t):t.fits es.size=true:=by
 have l1:=yj R.en
 have l2:=R.tab.sz
 rw[aqO]at l2
 have l3:=R.free
 exact fits_of (by omega) R.tab.dm (by omega)
theorem qj.sound(R:qj hf w s.heap a L es ep t):¬t.gaveWay=true:=by
 unfold SetTable.gaveWay
 rw[mask_odd R.tab.mok]
 decide
theorem ail{r:Rw}{b:Addr}{Q:Bool->Shared->Prop}(hx:RI s.heap r b){ys:List Value}(hy:∀y∈ys,∃q c,y=Value.ref c/\RI s.heap q c)(q:Q false s):wpAny (model P w) A (searchCouldBeSeen (.ref b) ys) Q E s:=by
 unfold searchCouldBeSeen
 refine wpAny_bind ?_
 refine wpAny_forIn_list _ (fun left r u=>r.1=none/\u=s/\∀y∈left,∃q c,y=Value.ref c/\RI s.heap q c) _ ?_ ?_ _ _ ⟨rfl,rfl,hy⟩
 ·rintro v left r u ⟨hr,rfl,hall⟩
  obtain⟨q',c,rfl,hc⟩:=hall v aqK
  have more:∀y∈left,∃q c,y=Value.ref c/\RI u.heap q c:=fun y m=>hall y (aqJ _ m)
  dsimp only
  by_cases hv:(b==c || (carriedByValue (.ref b)&&carriedByValue (.ref c)))=true
  ·exact wp_if_pos hv (wpAny_pure ⟨rfl,rfl,more⟩)
  ·refine wp_if_neg hv ?_
   refine wpAny_bind ((ni P w).quiet hx ?_)
   simp only[Bool.not_true,aq9,if_false]
   refine wpAny_bind ((ni P w).quiet hc ?_)
   simp only[Bool.not_true,aq9,if_false]
   refine wpAny_bind ((Iw hx).1 ?_)
   simp only[aq9,if_false]
   refine wpAny_bind ((Iw hc).1 ?_)
   simp only[aq9,if_false]
   exact wpAny_pure ⟨rfl,rfl,more⟩
 ·rintro⟨r1,r2⟩ u ⟨hr,rfl,_⟩
  simp only at hr
  subst hr
  exact wpAny_pure q
abbrev tO(m:Nat)(h:Int)(c:Nat):SetTable.Probe:=nth m (runAt m (SetTable.bits h % (m+1)) (SetTable.bits h)) c
theorem aao(m:Nat)(h:Int)(c:Nat):(tO m h c).dummy=none:=by
 have all:∀(n:Nat) (p:SetTable.Probe),p.dummy=none->(nth m p n).dummy=none:=by
  intro n
  induction n with
  |zero=>exact fun p k=>k
  |succ n ih=>
   intro p k
   refine ih (adv m p) ?_
   unfold adv
   split <;> exact k
 exact all c _ rfl
theorem VR(m:Nat)(h:Int)(c d:Nat):nth m (tO m h c) d=tO m h (c+d):=(nth_add m c _ d).symm
theorem seek(R:qj hf w s.heap a L es ep t){x:Addr}{r:Rw}(hx:RI s.heap r x){h:Int}(hh:hf r=h)(hu:(ni P w).room A){N:Nat}(hN:N < 10 * SetTable.turns t.mask)(out:way t.mask (h) N∉t.place.toList)(inn:∀c,c < N->way t.mask (h) c∈t.place.toList){Q:SetFound->Shared->Prop}
  (yes:r∈L.map Prod.snd->Q (.there none) s) (no:r∉L.map Prod.snd->Q (.free (way t.mask (h) N) false) s) :
  ∀(f c:Nat) (st:Option SetTable.Probe),st.getD (t.probeStart (h))=tO t.mask (h) c->c<=N->N - c < f->
   (∀(i:Nat) (p:Ent),L[i]?=some p->p.2=r->∃d,c<=d/\d < N/\t.place.toList[i]?=some (way t.mask (h) d))->
   wpAny (model P w) A (setSearchFrom a (.ref x) (h) true f st) Q E s:=by
 intro f
 induction f with
 |zero=>exact fun _ _ _ _ hfl _=>absurd hfl (Nat.not_lt_zero _)
 |succ f ih=>
  intro c st hst hc hfl left
  obtain⟨o,ho,hex,hd⟩:=R.ob
  rw[setSearchFrom_succ]
  refine wpAny_bind (wpAny_setState_of ho hd R.fits ?_)
  dsimp only
  refine wp_if_neg R.sound ?_
  try refine wpAny_bind (wpAny_pure ?_)
  have jAt:∀d,(nth t.mask (tO t.mask h c) d).j=way t.mask h (c+d):=fun d=>congrArg SetTable.Probe.j (VR t.mask h c d)
  have hashOf:∀(i:Nat) (p:Ent),L[i]?=some p->(es[i]?.map (·.1)).getD 0=hf p.2:=fun i p g=>by
   rw[LK R.en g]
   rfl
  have spec:=go_spec t R.tab.ris R.tab.dm (fun i=>(es[i]?.map (·.1)).getD 0) h (10 * SetTable.turns t.mask) (N - c) (tO t.mask h c) (aao _ _ _) (by omega) (fun d hdn=>by rw[jAt];exact inn (c+d) (by omega)) (by rw[jAt,arU hc];exact out)
  rcases spec with⟨d,i,hdn,hi,hhi,hno,hpr⟩|⟨hno,hpr⟩
  ·have hpr':t.probe (fun i=>(es[i]?.map (·.1)).getD 0) h (st.getD (t.probeStart h))=some (.candidate (way t.mask h (c+d)) i (tO t.mask h (c+(d+1)))):=by
    rw[hst,←jAt,←VR]
    exact hpr
   rw[hpr']
   dsimp only
   rw[jAt]at hi
   have hil:i < L.length:=by
    have k1:=(aqG.mp hi).1
    have k2:=R.tab.sz
    rw[aqO]at k2
    rw[ari]at k1
    omega
   obtain⟨p,hp⟩:∃p,L[i]?=some p:=⟨_,aqH hil⟩
   have pm:=aqM hp
   have go:wpAny (model P w) A (searchRest a (.ref x) h true f es t (way t.mask h (c+d)) i (tO t.mask h (c+(d+1)))) Q E s:=by
    unfold searchRest
    rw[LK R.en hp]
    dsimp only
    refine wpAny_bind (wpAny_holding ((ni P w).eqBool hu (R.ky p pm) hx ?_))
    refine wpAny_bind (wpAny_setState_of ho hd R.fits ?_)
    dsimp only
    by_cases same:p.2=r
    ·exact wp_if_pos (by simp[same]) (wpAny_pure (yes (aqR.mpr ⟨p,pm,same⟩)))
    ·refine wp_if_neg (by simp[same]) ?_
     try refine wpAny_bind (wpAny_pure ?_)
     rw[sameMem]
     dsimp only
     have live:t.slot (way t.mask h (c+d))=.live i:=slot_live R.tab.ris hi
     simp only[if_true,live,LK R.en hp]
     refine wpAny_bind (wpAny_isSame_ref_self (wpAny_bind (wpAny_pure ?_)))
     simp only[if_true]
     refine wp_if_neg (by simp[same]) ?_
     refine ih (c+(d+1)) _ rfl (by omega) (by omega) fun i0 p0 g0 e0=>?_
     obtain⟨d0,a1,a2,a3⟩:=left i0 p0 g0 e0
     refine⟨d0,?_,a2,a3⟩
     by_cases c1:d0 < c+d
     ·exact absurd ((hashOf i0 p0 g0).trans ((congrArg hf e0).trans hh)) (hno (d0 - c) i0 (by omega) (by rw[jAt,arU a1];exact a3))
     ·by_cases c2:d0=c+d
      ·rw[c2]at a3
       have live0:=slot_live R.tab.ris a3
       rw[live]at live0
       injection live0 with ei
       rw[←ei,hp]at g0
       exact absurd ((congrArg Prod.snd (aq0 g0)).trans e0) same
      ·omega
   by_cases hl:t.led=true
   ·refine wp_if_neg (by simp[hl]) ?_
    try refine wpAny_bind (wpAny_pure ?_)
    exact go
   ·refine wp_if_pos (by simp[hl]) ?_
    refine wpAny_bind (ail hx (fun y hy=>?_) ?_)
    ·obtain⟨e,he,ee⟩:=aqR.mp hy
     have h1:e∈es/\e.1=h:=by simpa using he
     have h2:e∈es.toList:=by simpa using h1.1
     rw[R.en]at h2
     obtain⟨p2,hp2,e2⟩:=aqR.mp h2
     exact⟨p2.2,p2.1,by rw[←ee,←e2],R.ky p2 hp2⟩
    ·refine wp_if_neg (by decide) ?_
     try refine wpAny_bind (wpAny_pure ?_)
     exact go
  ·have hpr':t.probe (fun i=>(es[i]?.map (·.1)).getD 0) h (st.getD (t.probeStart h))=some (.empty (way t.mask h N) none):=by
    have e2:way t.mask h N=(nth t.mask (tO t.mask h c) (N - c)).j:=by rw[jAt,arU hc]
    rw[hst,e2]
    exact hpr
   rw[hpr']
   dsimp only
   refine wpAny_pure (no fun hm=>?_)
   obtain⟨p0,m0,e0⟩:=aqR.mp hm
   obtain⟨i0,hi0,e1⟩:=List.getElem_of_mem m0
   have g0:L[i0]?=some p0:=by rw[aqH hi0,e1]
   obtain⟨d0,a1,a2,a3⟩:=left i0 p0 g0 e0
   exact hno (d0 - c) i0 (by omega) (by rw[jAt,arU a1];exact a3) ((hashOf i0 p0 g0).trans ((congrArg hf e0).trans hh))
theorem look(R:qj hf w s.heap a L es ep t){x:Addr}{r:Rw}(hx:RI s.heap r x)(hu:(ni P w).room A){Q:SetFound->Shared->Prop}(yes:r∈L.map Prod.snd->Q (.there none) s)
  (no:∀N,r∉L.map Prod.snd->way t.mask (hf r) N∉t.place.toList->(∀c,c < N->way t.mask (hf r) c∈t.place.toList)->Q (.free (way t.mask (hf r) N) false) s):wpAny (model P w) A (setSearch a (.ref x) (hf r) true) Q E s:=by
 have hfree:=R.free
 obtain⟨N,hN,out,inn⟩:=R.tab.first (by rw[aqO];omega) (hf r)
 have small:N < 100000:=by
  have:10 * SetTable.turns t.mask<=1420:=by
   unfold SetTable.turns
   rcases R.tab.mok with e|e|e <;> omega
  omega
 unfold setSearch
 refine seek R hx rfl hu hN out inn yes (fun hn=>no N hn out inn) 100000 0 none rfl (arn _) (by omega) fun i p g e=>?_
 have hi:(L.map fun p=>hf p.2)[i]?=some (hf r):=by
  rw[aqQ,g,←e]
  rfl
 have hil:i < t.place.toList.length:=by
  have k1:=(aqG.mp g).1
  have k2:=R.tab.sz
  rw[aqO]at k2
  rw[ari]
  omega
 obtain⟨c,hc,ec⟩:=R.tab.before out hi (aqH hil)
 exact⟨c,arn _,hc,by rw[aqH hil,ec]⟩
end
section
variable{P:Program}{w:World}{A:Around}{E:Value->Shared->Prop}{s:Shared}{hf:Rw->Int}{a:Addr}{L:List Ent}{es:Array (Int×Value)}{ep:Nat}{t:SetTable}
theorem afI(L:List Ent)(n:Nat)(x:Addr)(r:Rw):ents hf (L.take n++(x,r)::L.drop n)=(ents hf L).take n++(hf r,Value.ref x)::(ents hf L).drop n:=by
 unfold ents
 rw[ara,aqI,List.map_take,List.map_drop]
theorem range_all(L:List Ent):(List.range L.length).filterMap (fun i=>L[i]?)=L:=by
 have part:∀n,n<=L.length->(List.range n).filterMap (fun i=>L[i]?)=L.take n:=by
  intro n
  induction n with
  |zero=>exact fun _=>rfl
  |succ n ih=>
   intro hn
   rw[List.range_succ,List.filterMap_append,ih (by omega),List.take_add_one,aqH (show n < L.length by omega)]
   congr 1
   rw[List.filterMap_cons_some (aqH (show n < L.length by omega))]
   rfl
 rw[part _ (aq2 _),List.take_length]
theorem aeg(h:es.toList=ents hf L){order:Array Nat}(hp:order.toList.Perm (List.range L.length)) :
  ∃M:List Ent,(order.filterMap (es[·]?)).toList=ents hf M/\M.Perm L/\(M.map fun p=>hf p.2)=order.toList.map fun i=>(es.map (·.1)).getD i 0:=by
 have inside:∀i∈order.toList,i < L.length:=fun i hi=>List.mem_range.mp (hp.mem_iff.mp hi)
 refine⟨order.toList.filterMap (fun i=>L[i]?),?_,?_,?_⟩
 ·have e1:(order.filterMap (es[·]?)).toList=order.toList.filterMap (fun i=>es[i]?):=by
   first | rw[Array.toList_filterMap] | simp
  rw[e1]
  unfold ents
  rw[List.map_filterMap]
  congr 1
  funext i
  rw[←aro,h]
  unfold ents
  rw[aqQ]
 ·have:=hp.filterMap (fun i=>L[i]?)
  rw[range_all]at this
  exact this
 ·generalize order.toList=l at inside
  induction l with
  |nil=>rfl
  |cons i l ih=>
   have hi:=inside i aqK
   have e5:(es.map (·.1))[i]?=some (hf (L[i]).2):=by
    rw[Array.getElem?_map,LK h (aqH hi)]
    rfl
   rw[List.filterMap_cons_some (aqH hi),aqI,aqI,ih fun j hj=>inside j (aqJ _ hj),Array.getD_eq_getD_getElem?,e5]
   rfl
theorem alF{o:Obj}(ho:s.heap.get? a=some o)(hex:o.ExactSet)(hd:o.data=.set es ep t)(he:es.toList=ents hf L)(hsz:t.place.size=es.size)(hdm:t.dummies=#[])(hfl:es.size<=t.mask)(nd:(L.map Prod.snd).Nodup)(ky:∀p∈L,RI s.heap p.2 p.1)(pl:t.plain=true)
  (ld:w.params.followText "set-order"=true∨t.led=true) (few:L.length<=76) {wanted M:Nat} (hw:SetTable.sizeAbove wanted - 1=M) (hM:MaskOk M) (hw2:SetTable.sizeAbove wanted<=128) (hn:L.length * 5 < M * 3) {Q:Unit->Shared->Prop}
  (q:∀h' K es' ep' t',Heap.SameBut a s.heap h'->qj hf w h' a K es' ep' t'->K.Perm L->Q () { s with heap:=h' }):wpAny (model P w) A (setRelay a wanted) Q E s:=by
 have len:=yj he
 obtain⟨t',order,e,hp,T,em,el,epl,ed⟩:=relaid_ok t (hs:=es.map (·.1)) (wanted:=wanted) hw hM (by rw[Array.size_map,len];omega)
 rw[Array.size_map,len]at hp
 obtain⟨K,k1,k2,k3⟩:=aeg he hp
 rw[←k3]at T
 have ks:(order.filterMap (es[·]?)).size=es.size:=by
  rw[yj k1,k2.length_eq,len]
 rw[setRelay_eq]
 refine wpAny_bind (wpAny_setState_of ho hd (fits_of hsz hdm hfl) ?_)
 dsimp only
 refine wp_if_neg (by rw[sizeLine_eq];omega) ?_
 try refine wpAny_bind (wpAny_pure ?_)
 rw[e]
 dsimp only
 refine wpAny_bind ?_
 refine wp_if_neg (by rw[ks];simp) ?_
 try refine wpAny_bind (wpAny_pure ?_)
 refine wpAny_pure ?_
 dsimp only
 refine wpAny_storeSet_of ho hd ?_ (by rw[ks,len,sizeLine_eq];omega)
 have sb:Heap.SameBut a s.heap (s.heap.update a (Obj.putSet (order.filterMap (es[·]?)) t')):=Heap.SameBut.update ..
 refine q _ K (order.filterMap (es[·]?)) (ep+1) t' sb ⟨⟨_,store_at ho hd,⟨hex.1,hex.2.1,hex.2.2⟩,rfl⟩,k1,T,(k2.map Prod.snd).nodup_iff.mpr nd,fun p hp=>XS (ky p (k2.mem_iff.mp hp)) ho hd sb,by rw[epl];exact pl,by rw[el];exact ld,?_,by rw[k2.length_eq];exact few⟩ k2
 rw[k2.length_eq,em]
 exact hn
theorem ajx(R:qj hf w s.heap a L es ep t){x:Addr}{r:Rw}(hx:RI s.heap r x)(hu:(ni P w).room A)(hfew:r∉L.map Prod.snd->L.length+1<=76){Q:Bool->Shared->Prop}
  (q:∀b h' K es' ep' t',Heap.SameBut a s.heap h'->qj hf w h' a K es' ep' t'->(r∈L.map Prod.snd->K=L)->(r∉L.map Prod.snd->K.Perm ((x,r)::L))->Q b { s with heap:=h' }):wpAny (model P w) A (setAddHashed a (.ref x) (hf r)) Q E s:=by
 obtain⟨o,ho,hex,hd⟩:=R.ob
 have len:=yj R.en
 have hfree:=R.free
 unfold setAddHashed
 refine wpAny_holding ?_
 rw[show(100000:Nat)=99999+1 from rfl,setAddHashedIn_succ]
 refine wpAny_bind (wpAny_setState_of ho hd R.fits ?_)
 dsimp only
 refine wp_if_neg (by simp[byScan,Value.scannable]) ?_
 try refine wpAny_bind (wpAny_pure ?_)
 refine wpAny_bind (look R hx hu (fun hm=>?_) fun N hm out inn=>?_)
 ·dsimp only
  exact wpAny_pure (q false s.heap L es ep t (Heap.SameBut.refl a s.heap) R (fun _=>rfl) fun z=>absurd hm z)
 have few1:=hfew hm
 dsimp only
 refine wpAny_bind (wpAny_setState_of ho hd R.fits ?_)
 dsimp only
 obtain⟨q1,q2,q3,q4,q5,q6,q7,q8,q9⟩:=R.tab.put out inn
 have pl1:(t.put (way t.mask (hf r) N)).1.plain=true:=by rw[q6];exact R.pl
 generalize hpt:t.put (way t.mask (hf r) N)=pt at q1 q3 q4 q5 q6 q7 q8 q9 pl1 ⊢
 obtain⟨t1,n⟩:=pt
 dsimp only at q1 q3 q4 q5 q6 q7 q8 q9 pl1 ⊢
 subst q1
 first
  |(refine wpAny_bind ?_;refine wp_if_pos pl1 ?_;refine(Iw hx).2 ?_)
  |refine wp_if_pos pl1 (wpAny_bind ((Iw hx).2 ?_))
 simp only[if_true]
 have ein:(SetTable.insertAt es (SetTable.below t.place (way t.mask (hf r) N)) (hf r,Value.ref x)).toList=ents hf (L.take (SetTable.below t.place (way t.mask (hf r) N))++(x,r)::L.drop (SetTable.below t.place (way t.mask (hf r) N))):=by
  rw[SetTable.toList_insertAt,afI,R.en]
 generalize hnn:SetTable.below t.place (way t.mask (hf r) N)=n at q2 q3 ein ⊢
 have pm:=put_perm L n (x,r)
 have hs1:(L.take n++(x,r)::L.drop n).map (fun p=>hf p.2)=(L.map fun p=>hf p.2).take n++hf r::(L.map fun p=>hf p.2).drop n:=by
  rw[ara,aqI,List.map_take,List.map_drop]
 rw[←hs1]at q3
 have nd1:((L.take n++(x,r)::L.drop n).map Prod.snd).Nodup:=by
  refine(pm.map Prod.snd).nodup_iff.mpr ?_
  rw[aqI]
  exact arB.mpr ⟨hm,R.nd⟩
 have len1:(SetTable.insertAt es n (hf r,Value.ref x)).size=L.length+1:=by
  rw[yj ein,pm.length_eq]
  rfl
 generalize SetTable.insertAt es n (hf r,Value.ref x)=es1 at ein len1 ⊢
 have lenM:(L.take n++(x,r)::L.drop n).length=L.length+1:=pm.length_eq
 generalize L.take n++(x,r)::L.drop n=M at pm q3 nd1 ein lenM
 refine wpAny_bind (wpAny_storeSet_of ho hd ?_ (by rw[len1,sizeLine_eq];omega))
 have sb:Heap.SameBut a s.heap (s.heap.update a (Obj.putSet es1 t1)):=Heap.SameBut.update ..
 have ho1:=store_at (es':=es1) (t':=t1) ho hd
 generalize s.heap.update a (Obj.putSet es1 t1)=h1 at sb ho1 ⊢
 have ky1:∀p∈M,RI h1 p.2 p.1:=fun p hp=>by
  rcases aqV.mp (pm.mem_iff.mp hp) with e|m
  ·rw[e];exact XS hx ho hd sb
  ·exact XS (R.ky p m) ho hd sb
 have ld1:w.params.followText "set-order"=true∨t1.led=true:=by rw[q5];exact R.ld
 have full:t1.tooFull=true↔(L.length+1) * 5 ≥ t1.mask * 3:=by
  unfold SetTable.tooFull
  rw[decide_eq_true_eq,q9,aqO]
 by_cases hfu:t1.tooFull=true
 ·first
   |(refine wpAny_bind ?_;refine wp_if_pos (by simp[hfu]) ?_)
   |(refine wp_if_pos (by simp[hfu]) ?_;refine wpAny_bind ?_)
  have over:=full.mp hfu
  rw[len]
  have psz:t1.place.size=es1.size:=by
   have:=q3.sz
   rw[aqO,lenM]at this
   rw[this,len1]
  have which:(t.mask=7/\L.length=4)∨(t.mask=31/\L.length=18):=by
   rcases R.tab.mok with e|e|e
   ·rw[q4,e]at over;rw[e]at hfree;exact Or.inl ⟨e,by omega⟩
   ·rw[q4,e]at over;rw[e]at hfree;exact Or.inr ⟨e,by omega⟩
   ·rw[q4,e]at over;omega
  have go:∀m,SetTable.sizeAbove (SetTable.grown (L.length+1)) - 1=m->MaskOk m->SetTable.sizeAbove (SetTable.grown (L.length+1))<=128->(L.length+1) * 5 < m * 3->
    wpAny (model P w) A (setRelay a (SetTable.grown (L.length+1))) (fun _ u=>wpAny (model P w) A (pure true) Q E u) E { s with heap:=h1 }:=fun m g1 g2 g3 g4=>
   alF (s:={ s with heap:=h1 }) ho1 ⟨hex.1,hex.2.1,hex.2.2⟩ rfl ein psz q3.dm (by rw[len1,q4];rcases which with⟨e,e2⟩|⟨e,e2⟩ <;> omega) nd1 ky1 pl1 ld1 (by rw[lenM];exact few1) g1 g2 g3 (by rw[lenM];exact g4)
    fun h2 K es2 ep2 t2 sb2 R2 pm2=>wpAny_pure (q true h2 K es2 ep2 t2 (sb.trans sb2) R2 (fun z=>absurd z hm) fun _=>pm2.trans pm)
  rcases which with⟨_,e2⟩|⟨_,e2⟩
  ·exact go 31 (by rw[e2,size_20]) (.inr (.inl rfl)) (by rw[e2,size_20];decide) (by omega)
  ·exact go 127 (by rw[e2,size_76]) (.inr (.inr rfl)) (by rw[e2,size_76];decide) (by omega)
 ·first
   |refine wp_if_neg (by simp[hfu]) ?_
   |(refine wpAny_bind ?_;refine wp_if_neg (by simp[hfu]) ?_;refine wpAny_pure ?_)
  have under:¬(L.length+1) * 5 ≥ t1.mask * 3:=fun z=>hfu (full.mpr z)
  exact wpAny_pure (q true h1 M es1 (ep+1) t1 sb ⟨⟨_,ho1,⟨hex.1,hex.2.1,hex.2.2⟩,rfl⟩,ein,q3,nd1,ky1,pl1,ld1,by rw[lenM];omega,by rw[lenM];exact few1⟩ (fun z=>absurd z hm) fun _=>pm)
end
theorem Cv{α:Type}[DecidableEq α]:∀(l D:List α),l.Nodup->(∀x∈l,x∈D)->l.length<=D.length
 |[],_,_,_=>arn _
 |x::l,D,hn,hs=>by
  obtain⟨h1,h2⟩:=arB.mp hn
  have mx:=hs x aqK
  have ih:=Cv l (D.erase x) h2 fun y hy=>(List.mem_erase_of_ne (fun e=>h1 (by rw[←e];exact hy))).2 (hs y (aqJ _ hy))
  have e:=List.length_erase_of_mem mx
  have hp:=List.length_pos_of_mem mx
  rw[aqS]
  omega
structure Has(ks:List Ent)(i:Nat)(L:List Ent):Prop where
 sub:∀p∈L,p∈ks.take i
 all:∀p∈ks.take i,p.2∈L.map Prod.snd
theorem DG{α:Type}{l:List α}{i:Nat}{x:α}(h:l[i]?=some x):l.take (i+1)=l.take i++[x]:=by
 rw[List.take_add_one,h]
 rfl
theorem Has.next{ks L K:List Ent}{i:Nat}{x:Ent}(g:Has ks i L)(h:ks[i]?=some x)(h1:x.2∈L.map Prod.snd->K=L)(h2:x.2∉L.map Prod.snd->K.Perm (x::L)):Has ks (i+1) K:=by
 by_cases c:x.2∈L.map Prod.snd
 ·rw[h1 c]
  refine⟨fun p hp=>?_,fun p hp=>?_⟩
  ·rw[DG h]
   exact ark _ (g.sub p hp)
  ·rw[DG h]at hp
   rcases aqU.mp hp with m|m
   ·exact g.all p m
   ·rw[aqL.mp m]
    exact c
 ·have pm:=h2 c
  refine⟨fun p hp=>?_,fun p hp=>?_⟩
  ·rw[DG h]
   rcases aqV.mp (pm.mem_iff.mp hp) with e|m
   ·exact arG _ (aqL.mpr e)
   ·exact ark _ (g.sub p m)
  ·rw[(pm.map Prod.snd).mem_iff,aqI]
   rw[DG h]at hp
   rcases aqU.mp hp with m|m
   ·exact aqJ _ (g.all p m)
   ·rw[aqL.mp m]
    exact aqK
def yL(w:World):Obj:={ cls:=.type "set",dict:=none,data:=.set #[] 0 (.fresh 0 0 (!w.params.followText "set-order")) }
section
variable{P:Program}{w:World}{A:Around}{E:Value->Shared->Prop}{s:Shared}{hf:Rw->Int}
theorem qj.stay{h h':Heap}{a:Addr}{L:List Ent}{es:Array (Int×Value)}{ep:Nat}{t:SetTable}(R:qj hf w h a L es ep t)(ha:∀o,h.get? a=some o->h'.get? a=some o)(hk:∀p∈L,RI h' p.2 p.1):qj hf w h' a L es ep t:=by
 obtain⟨o,ho,r⟩:=R.ob
 exact⟨⟨o,ha o ho,r⟩,R.en,R.tab,R.nd,hk,R.pl,R.ld,R.free,R.few⟩
theorem afG{h:Heap}{a:Addr}(ho:h.get? a=some (yL w)):qj hf w h a [] #[] 0 (.fresh 0 0 (!w.params.followText "set-order")):=by
 refine⟨⟨_,ho,⟨rfl,rfl,rfl⟩,rfl⟩,rfl,⟨List.Pairwise.nil,rfl,rfl,.inl rfl,fun x hx=>(by cases hx),fun i h j hi=>(by simp at hi)⟩,arR,fun p hp=>(by cases hp),rfl,?_,(show 0 * 5 < 7 * 3 by decide),arn _⟩
 show _∨(!w.params.followText "set-order")=true
 cases w.params.followText "set-order"
 ·exact .inr rfl
 ·exact .inl rfl
theorem agI(hhf:∀r,(ni P w).hash r=hf r){I:Addr}{fp wr:List Addr}{G:Array GenState->Array GenState->Prop}{n:Nat}{Pv:Nat->Value->Prop}{St:Nat->Shared->Prop}{R:Result->Shared->Prop}(W:WalksS P w A.in1 I fp wr G n Pv St)(S:Addr)(hSf:S∉fp)(ks:List Ent)(hn:n=ks.length)
  (D:List Rw) (hD:D.length<=76) (hkD:∀p∈ks,p.2∈D) (hval:∀i v,Pv i v->∃p,ks[i]?=some p/\v=.ref p.1) (h0:Heap) (hk:∀p∈ks,RI h0 p.2 p.1) (hS0:h0.get? S=none) (hw0:∀b∈wr,h0.get? b=none) (hu:(ni P w).room A.in1) :
  ∀(m i:Nat) (s:Shared),n - i=m->i<=n->St i s->(∀b o,h0.get? b=some o->s.heap.get? b=some o)->(∃L es ep t,qj hf w s.heap S L es ep t/\Has ks i L)->
   (∀u L es ep t,Moved (S::wr) G s u->qj hf w u.heap S L es ep t->Has ks n L->(∀b o,h0.get? b=some o->u.heap.get? b=some o)->R (.ok (.ret .none)) u)->
   codeAny (model P w) A (.builtin "set.update.loop" ⟨[.ref S,.ref I],[]⟩) R s:=by
 have Sw:S∉wr:=fun h=>hSf (W.sub _ h)
 have wS:∀b∈wr,b∈S::wr:=fun b hb=>aqJ _ hb
 have old:∀{s u:Shared},Moved wr G s u->(∀b o,h0.get? b=some o->s.heap.get? b=some o)->∀b o,h0.get? b=some o->u.heap.get? b=some o:=fun hm hkp b o e=>hm.heap b o (fun hb=>by rw[hw0 b hb]at e;cases e) (hkp b o e)
 intro m
 induction m with
 |zero=>
  intro i s hm0 hi hst hkp ⟨L,es,ep,t,hS,g⟩ hR
  obtain rfl:i=n:=by omega
  refine codeAny_builtin PyProof.Rows.F.entry_set_update_loop ?_
  rw[Around.under_plainId PyProof.Rows.F.plain_set_update_loop _]
  refine wpAny_bind (W.done s _ _ hst fun u hm=>?_)
  have kept:=old hm hkp
  exact wpAny_pure (hR u L es ep t (hm.mono wS) (hS.stay (fun o e=>hm.heap S o Sw e) fun p hp=>Tg (hk p (arJ (g.sub p hp))) kept) g kept)
 |succ m ih=>
  intro i s hm0 hi hst hkp ⟨L,es,ep,t,hS,g⟩ hR
  have hlt:i < n:=by omega
  refine codeAny_builtin PyProof.Rows.F.entry_set_update_loop ?_
  rw[Around.under_plainId PyProof.Rows.F.plain_set_update_loop _]
  refine wpAny_bind (W.item i s _ _ hlt hst fun v u hP hst' hm=>?_)
  obtain⟨p,hp,rfl⟩:=hval i v hP
  have kept:=old hm hkp
  have hS':qj hf w u.heap S L es ep t:=hS.stay (fun o e=>hm.heap S o Sw e) fun q hq=>Tg (hk q (arJ (g.sub q hq))) kept
  have hx:RI u.heap p.2 p.1:=Tg (hk p (aqM hp)) kept
  refine wpAny_bind (wpAny_holding ?_)
  unfold setAdd
  refine wpAny_holding ?_
  refine wpAny_bind ((ni P w).pyHash hu hx ?_)
  rw[hhf]
  have inD:∀y∈L.map Prod.snd,y∈D:=fun y hy=>by
   obtain⟨q,hq,e⟩:=aqR.mp hy
   rw[←e]
   exact hkD q (arJ (g.sub q hq))
  refine ajx (s:={ u with toks:=u.toks+(ni P w).draws p.2 }) hS' hx hu (fun hnew=>?_) fun b h' K es' ep' t' sb hS2 c1 c2=>?_
  ·have:=Cv (p.2::L.map Prod.snd) D (arB.mpr ⟨hnew,hS.nd⟩) fun y hy=>by
    rcases aqV.mp hy with e|hy
    ·rw[e];exact hkD p (aqM hp)
    ·exact inD y hy
   rw[aqS,aqO]at this
   omega
  have kept2:∀b o,h0.get? b=some o->h'.get? b=some o:=fun b o e=>(sb.2 b (fun z=>by rw[z,hS0]at e;cases e)).trans (kept b o e)
  refine wpAny_pure ⟨plainId_quiet PyProof.Rows.F.plain_set_update_loop _,ih (i+1) _ (by omega) hlt (W.frame _ u _ _ hst' (Nat.le_add_right _ _) fun b hb o e=>?_) kept2 ⟨K,es',ep',t',hS2,g.next hp c1 c2⟩ fun v L2 es2 ep2 t2 hm2 hS3 g3 k3=>?_⟩
  ·rw[sb.2 b (fun h:b=S=>hSf (by rw[←h];exact hb))];exact e
  ·refine hR v L2 es2 ep2 t2 (Moved.trans W.gtrans ((hm.mono wS).then_heap (Nat.le_add_right _ _) fun b o hb e=>?_) hm2) hS3 g3 k3
   rw[sb.2 b (fun h:b=S=>hb (by rw[h];exact aqK))];exact e
set_option maxHeartbeats 4000000 in
theorem aam(hhf:∀r,(ni P w).hash r=hf r){l:Addr}{items:Array Value}(ks:List Ent)(D:List Rw)(hD:D.length<=76)(hkD:∀p∈ks,p.2∈D){Q:Value->Shared->Prop}(hh:A.handled=none)(hl:s.heap.IsList l items)(hit:items.toList=ks.map fun p=>Value.ref p.1)
  (hk:∀p∈ks,RI s.heap p.2 p.1) (hu:A.units+3+8 < cLine)
  (h:∀(h':Heap) (tk:Nat) L es ep t,qj hf w h' s.heap.objs.size L es ep t->Has ks ks.length L->(∀b o,s.heap.get? b=some o->h'.get? b=some o)->Q (.ref s.heap.objs.size) { s with heap:=h',toks:=tk }) :
  wpAny (model P w) A (call (.type "set") [.ref l]) Q E s:=by
 have isz:items.size=ks.length:=by
  rw[←ari,hit,aqO]
 obtain⟨cc,tl,hmro⟩:=PySem.F.called_set.mro
 have hmade:=PySem.F.called_set.made
 have hsub:=PySem.F.called_set.sub
 refine wpAny_call (codeAny_of_tree ?_)
 show wpAny _ _ (callAny (.type "set") _) _ _ _
 refine wpAny_pure ⟨Code.quiet_builtin _ (by decide +kernel),codeAny_builtin PySem.F.entry_type_call ?_⟩
 rw[Around.under_plain (weight_type_call_type "set" [.ref l] []) rfl]
 have nt:=PySem.F.called_set.notType
 have cr:=PySem.F.called_set.canCreate
 have hct:=PySem.F.typeCall_set_1 (.ref l)
 (repeat (any_goals first | assumption | wp_step))
 refine codeAny_mono (code_set_led1 (.ref l) (E:=E) (Q₁:=fun v u=>v=.ref s.heap.objs.size/\u={ s with heap:=s.heap.push (yL w) }) ⟨rfl,rfl⟩) fun r u hr=>?_
 cases r with
 |error e=>exact hr
 |ok fl=>
  cases fl with
  |ret v=>
   obtain⟨rfl,rfl⟩:=hr
   have hS:(s.heap.push (yL w)).get? s.heap.objs.size=some (yL w):=Heap.get?_push_size _ rfl
   have hT:Shared.TypeIs { s with heap:=s.heap.push (yL w) } (.ref s.heap.objs.size) "set":=⟨_,hS,rfl⟩
   have hli:=PySem.F.called_set.init.lookup
   have hbi:=PySem.F.called_set.init.bind (.ref s.heap.objs.size)
   (repeat (any_goals first | assumption | wp_step))
   refine codeAny_mono (codeAny_call_builtin (R:=wants (fun r u=>r=.none/\∃h' tk L es ep t,u={ s with heap:=h',toks:=tk }/\qj hf w h' s.heap.objs.size L es ep t/\Has ks ks.length L/\∀b o,s.heap.get? b=some o->h'.get? b=some o) E) PySem.F.called_set.init.plain PySem.F.entry_set_init (check_set_init_1 hT ?_)) fun r₂ u₂ hr₂=>?_
   ·obtain⟨ol,hol,hcl,nl,hdl⟩:=hl
    obtain⟨ocls,odict,odata,oslots⟩:=ol
    simp only at hcl hdl
    subst hcl;subst hdl
    have hol':(s.heap.push (yL w)).get? l=some { cls:=.type "list",dict:=odict,data:=.seq items nl,slots:=oslots }:=Heap.get?_push_of_some _ hol
    have sl1:=PySem.F.sub_list_set
    have sl2:=PySem.F.sub_list_frozenset
    have nd:(Value.type "list"==Value.type "dict")=false:=by decide
    have hl1:(s.heap.push (yL w)).IsList l items:=⟨_,hol',rfl,nl,rfl⟩
    unfold Builtin.«set.__init__» noKeywords Builtin.Frozenset.updateFrom
    generalize hPI:pyIter=PI
    wp_walk
    subst hPI
    refine wpAny_pyIter_list hl1 ?_
    refine wpAny_bind (wpAny_runValue ?_)
    have lS:l < s.heap.objs.size:=Heap.lt_size hol
    have h3:A.in1.in1.in1.handled=none:=by simp[hh]
    have sz1:(s.heap.push (yL w)).objs.size=s.heap.objs.size+1:=Heap.size_push ..
    have lI:l≠(s.heap.push (yL w)).objs.size:=by rw[sz1];exact ard (arH lS)
    have Sf:s.heap.objs.size∉[(s.heap.push (yL w)).objs.size,l]:=by
     rw[sz1]
     simp only[aqV,arh,or_false,not_or]
     exact⟨ard (Nat.lt_succ_self _),Nat.ne_of_gt lS⟩
    have hval:∀(i:Nat) (v:Value),items[i]?=some v->∃p,ks[i]?=some p/\v=.ref p.1:=fun i v hv=>by
     rw[←aro,hit,aqQ]at hv
     obtain⟨p,g1,g2⟩:=arx.mp hv
     exact⟨p,g1,g2.symm⟩
    have fresh:∀b,s.heap.objs.size<=b->s.heap.get? b=none:=fun b hb=>by
     cases q:s.heap.get? b with
     |none=>rfl
     |some o=>exact absurd (Heap.lt_size q) (Nat.not_lt_of_le hb)
    refine agI hhf ((Walks.list h3 _ l lI items).toS) s.heap.objs.size Sf ks isz D hD hkD hval s.heap hk (fresh _ (aq2 _)) (fun b hb=>fresh b (by rw[aqL.mp hb,sz1];exact Nat.le_succ _)) hu (items.size - 0) 0 _ (by omega) (arn _)
     ⟨⟨_,Heap.get?_push_size _ rfl,rfl,rfl⟩,(hl1.push _)⟩ (fun b o e=>Heap.get?_push_of_some _ (Heap.get?_push_of_some _ e)) ⟨[],#[],0,_,afG (Heap.get?_push_of_some _ hS),⟨fun p hp=>(by cases hp),fun p hp=>(by simp at hp)⟩⟩ fun u L es ep t hm hS' g' kp=>?_
    obtain⟨h',g2,d',tk',os'⟩:=u
    have eg:g2=s.gens:=hm.gens
    have ed:d'=s.drawn:=hm.drawn
    have eo:os'=s.os:=hm.os
    subst eg;subst ed;subst eo
    refine wpAny_pure ?_
    rw[isz]at g'
    exact wpAny_pure ⟨rfl,h',tk',L,es,ep,t,rfl,hS',g',kp⟩
   ·cases r₂ with
    |error e=>exact hr₂
    |ok fl₂=>
     cases fl₂ with
     |ret r=>
      obtain⟨rfl,h',tk,L,es,ep,t,rfl,hS',g',hk'⟩:=hr₂
      (repeat (any_goals first | assumption | wp_step))
      exact h _ _ _ _ _ _ hS' g' hk'
     |_=>exact hr₂.elim
  |_=>exact hr.elim
end
def abB(w:World)(h:Heap)(a:Addr)(L:List Ent):Prop:=∃(hf:Rw->Int) (es:Array (Int×Value)) (ep:Nat) (t:SetTable),(∃o,h.get? a=some o/\o.ExactSet/\o.data=.set es ep t)/\es.toList=ents hf L/\t.fits es.size=true/\Ris t.place.toList/\(w.params.followText "set-order"=true∨t.led=true)
def Mg(w:World)(a:Addr)(L:List Ent):HO:=.ext fun h=>abB w h a L
section
variable{X:Cx}
theorem Vy{P:Program}{w:World}{h:Heap}:∀(l:List Int) (us:List Value),Vals (l.map V.int) us->NestedAll h (l.map .num) us
 |[],_,.nil=>.nil
 |i::l,_,.cons r t=>by
  obtain⟨tk,rfl⟩:=r
  exact .cons (.int i tk) (Vy (P:=P) (w:=w) l _ t)
theorem Ux:∀{ks:List Ent} {us:List Value},Vals (ks.map fun p=>V.ref p.1) us->us=ks.map fun p=>Value.ref p.1
 |[],_,.nil=>rfl
 |p::ks,_,.cons r t=>by
  cases r
  rw[Ux t]
  rfl
theorem Vz{L:List Ent}:∀(out:List Value) (M:List Rw),PySem.W.EachIs (fun v (r:Rw)=>∃p∈L,v=Value.ref p.1/\r=p.2) out M->∃ys:List V,Vals ys out/\eV (fun v (r:Rw)=>∃p∈L,v=V.ref p.1/\r=p.2) ys M
 |[],[],.nil=>⟨[],.nil,eV.nil⟩
 |_::out,_::M,.cons ⟨p,hp,e1,e2⟩ k=>by
  obtain⟨ys,h1,h2⟩:=Vz out M k
  subst e1 e2
  refine⟨.ref p.1::ys,.cons rfl h1,by rw[aqS,aqS,h2.1],fun j u y g1 g2=>?_⟩
  cases j with
  |zero=>
   cases g1
   cases g2
   exact⟨p,hp,rfl,rfl⟩
  |succ j=>exact h2.2 j u y g1 g2
end
def gF(da dc:Addr):List (Str×V):=putF ("circles" : Str) (.ref dc) (putF ("allowances" : Str) (.ref da) [])
structure aeD(C:Addr)(H:Hp)(p da dc:Addr)(al:List Int)(ci:List (List Int)):Prop where
 ob:∃dx,H p=some (.ins C dx (gF da dc))
 la:H da=some (.lst (al.map V.int))
 lc:∃us,H dc=some (.lst us)/\eV (GJ H) us ci
 ne:da≠dc
theorem aeD.mono{C:Addr}{H H':Hp}(e:Ex H H'){p da dc:Addr}{al:List Int}{ci:List (List Int)}(g:aeD C H p da dc al ci):aeD C H' p da dc al ci:=by
 obtain⟨⟨dx,ob⟩,la,⟨us,h1,h2⟩,ne⟩:=g
 exact⟨⟨dx,e _ _ ob⟩,e _ _ la,⟨us,e _ _ h1,h2.imp fun _ _ r=>r.mono e⟩,ne⟩
end Ear
namespace Rf
open PySem PySem.Spec PyProof.Rows L2 Evl
abbrev obj(h:Nat):Dat:=PyData.dict [(PyData.none,PyData.int (Int.ofNat h))]
inductive iW where
 |dat (d:Dat)|lst (n:Nat) (xs:List Dat)|dic (n:Bool) (kvs:List (Dat×Dat))
structure aO where
 f:Str->Option Addr
 fl:Str->List Str
 w:World
instance:CoeFun aO fun _=>Str->Option Addr:=⟨aO.f⟩
structure Inst where
 cls:Str
 fs:List (Str×iW)
abbrev Mo:=List Inst
inductive Cell where
 |dat (d:Dat)|mut (xs:List Dat)
abbrev Env:=List (Option Cell)
structure dJ where
 cls:Str
 fs:List (Str×Dat)
inductive Out(α:Type) where
 |ok (a:α)|exc (x:dJ)|bad
inductive aZ(α:Type) where
 |ok (a:α) (M:Mo)|exc (x:dJ) (M:Mo)|bad
inductive rZ where
 |next (ρ:Env) (M:Mo)|ret (d:Dat) (M:Mo)|brk (ρ:Env) (M:Mo)|cont (ρ:Env) (M:Mo)|exc (x:dJ) (ρ:Env) (M:Mo)|bad
structure Gh where
 tbl:List Addr
 ow:Addr->Option (Nat×Str)
 Lc:Addr->Prop
 Lo:Addr->Prop
def Gh.W(g:Gh)(a:Addr):Prop:=a∈g.tbl∨g.ow a≠none
def Gh.A(g:Gh)(a:Addr):Prop:=g.W a∨g.Lc a∨g.Lo a
def Jc:HO->Prop
 |.tup _=>False
 |.frz _ _=>False
 |_=>True
def amy(K:aqE)(a:Addr)(xs:List V):Prop:=∃(o:Obj) (its:Array Value) (n:Nat),K.lookup a=some o/\o.cls=.type "list"/\o.dict=none/\o.data=.seq its n/\its.size<=sizeLine/\Vals xs its.toList
def O8(K:aqE)(g:Gh)(H:Hp)(a:Addr)(xs:List V):Prop:=(Rd H a (.lst xs)/\¬g.A a)∨amy K a xs
theorem O8.sq{K:aqE}{g:Gh}{H:Hp}{a:Addr}{xs:List V}(h:O8 K g H a xs):SqL K H a xs:=h.elim (fun z=>.inl z.1) .inr
mutual
inductive Rep(K:aqE)(g:Gh)(H:Hp):V->Dat->Prop
 |non:Rep K g H .non .none
 |bl (b:Bool):Rep K g H (.bl b) (.bool b)
 |int (i:Int):Rep K g H (.int i) (.int i)
 |str (x:Str):Rep K g H (.str x) (.str x)
 |tup {a:Addr} {xs:List V} {ds:List Dat}:SqT K H a xs->aH K g H xs ds->Rep K g H (.ref a) (.tuple ds)
 |lst {a:Addr} {xs:List V} {ds:List Dat}:O8 K g H a xs->aH K g H xs ds->Rep K g H (.ref a) (.list ds)
 |obj {a:Addr} {h:Nat}:g.tbl[h]?=some a->Rep K g H (.ref a) (obj h)
inductive aH(K:aqE)(g:Gh)(H:Hp):List V->List Dat->Prop
 |nil:aH K g H [] []
 |cons {v:V} {vs:List V} {d:Dat} {ds:List Dat}:Rep K g H v d->aH K g H vs ds->aH K g H (v::vs) (d::ds)
end
structure Kd(g:Gh)(H:Hp):Prop where
 ob:∀a,g.A a->∃o,H a=some o/\Jc o
 lo:∀a,g.Lo a->¬g.W a
 lc:∀a,g.Lc a->¬g.W a/\¬g.Lo a
structure Gr(q:Bool)(g g':Gh)(H H':Hp):Prop where
 keep:∀a o,H a=some o->¬g.W a->¬g.Lo a->H' a=some o
 keepW:q=true->∀a o,H a=some o->g.W a->H' a=some o
 dom:∀a,H' a=none->H a=none
 tbl:∃more,g'.tbl=g.tbl++more
 W:∀a,g.W a->g'.W a
 nW:∀a,g'.W a->g.W a∨H a=none
 qg:q=true->g'.tbl=g.tbl/\g'.ow=g.ow
 Lc:g'.Lc=g.Lc
 Lo:∀a,g.Lo a->g'.Lo a
 nLo:∀a,g'.Lo a->g.Lo a∨H a=none
section
variable{K:aqE}{q:Bool}{g g' g2:Gh}{H H' H2:Hp}{v:V}{d:Dat}
theorem Gr.refl:Gr q g g H H:=⟨fun _ _ h _ _=>h,fun _ _ _ h _=>h,fun _ h=>h,⟨[],by simp⟩,fun _ h=>h,fun _ h=>.inl h,fun _=>⟨rfl,rfl⟩,rfl,fun _ h=>h,fun _ h=>.inl h⟩
theorem BW(e:Ex H H'):∀a,H' a=none->H a=none:=fun a h=>by
 cases h1:H a with
 |none=>rfl
 |some o=>
  rw[e a o h1]at h
  cases h
theorem Gr.ex(e:Ex H H'):Gr q g g H H':=⟨fun a o h _ _=>e a o h,fun _ a o h _=>e a o h,BW e,⟨[],by simp⟩,fun _ h=>h,fun _ h=>.inl h,fun _=>⟨rfl,rfl⟩,rfl,fun _ h=>h,fun _ h=>.inl h⟩
theorem Gr.trans(a:Gr q g g' H H')(b:Gr q g' g2 H' H2):Gr q g g2 H H2 where
 keep:=fun x o h nw nl=>by
  have h1:=a.keep x o h nw nl
  refine b.keep x o h1 (fun z=>?_) (fun z=>?_)
  ·rcases a.nW x z with z|z
   ·exact nw z
   ·rw[h]at z
    cases z
  ·rcases a.nLo x z with z|z
   ·exact nl z
   ·rw[h]at z
    cases z
 keepW:=fun hq x o h w=>b.keepW hq x o (a.keepW hq x o h w) (a.W x w)
 dom:=fun x h=>a.dom x (b.dom x h)
 tbl:=by
  obtain⟨m1,e1⟩:=a.tbl
  obtain⟨m2,e2⟩:=b.tbl
  exact⟨m1++m2,by rw[e2,e1,List.append_assoc]⟩
 W:=fun x h=>b.W x (a.W x h)
 nW:=fun x h=>by
  rcases b.nW x h with z|z
  ·exact a.nW x z
  ·exact .inr (a.dom x z)
 qg:=fun hq=>by
  obtain⟨e1,e2⟩:=a.qg hq
  obtain⟨f1,f2⟩:=b.qg hq
  exact⟨f1.trans e1,f2.trans e2⟩
 Lc:=b.Lc.trans a.Lc
 Lo:=fun x h=>b.Lo x (a.Lo x h)
 nLo:=fun x h=>by
  rcases b.nLo x h with z|z
  ·exact a.nLo x z
  ·exact .inr (a.dom x z)
theorem Gr.loud(a:Gr q g g' H H'):Gr false g g' H H':=⟨a.keep,(fun h=>nomatch h),a.dom,a.tbl,a.W,a.nW,(fun h=>nomatch h),a.Lc,a.Lo,a.nLo⟩
theorem Gr.nA(r:Gr q g g' H H'){a:Addr}{o:HO}(h:H a=some o)(n:¬g.A a):¬g'.A a:=fun z=>by
 rcases z with z|z|z
 ·rcases r.nW a z with z|z
  ·exact n (.inl z)
  ·rw[h]at z
   cases z
 ·rw[r.Lc]at z
  exact n (.inr (.inl z))
 ·rcases r.nLo a z with z|z
  ·exact n (.inr (.inr z))
  ·rw[h]at z
   cases z
theorem Gr.rd(r:Gr q g g' H H'){a:Addr}{o:HO}(h:Rd H a o)(n:¬g.A a):Rd H' a o/\¬g'.A a:=by
 rcases h with h|⟨z,h⟩
 ·exact⟨.inl (r.keep a _ h (fun w=>n (.inl w)) fun w=>n (.inr (.inr w))),r.nA h n⟩
 ·exact⟨.inr ⟨z,r.keep a _ h (fun w=>n (.inl w)) fun w=>n (.inr (.inr w))⟩,r.nA h n⟩
theorem Kd.tup(k:Kd g H){a:Addr}{xs:List V}(h:Rd H a (.tup xs)):¬g.A a:=fun z=>by
 obtain⟨o,e,m⟩:=k.ob a z
 rcases h with h|⟨y,h⟩ <;> (rw[h]at e;cases e;exact m)
theorem Gr.sqT(r:Gr q g g' H H')(k:Kd g H){a:Addr}{xs:List V}(h:SqT K H a xs):SqT K H' a xs:=by
 rcases h with h|h
 ·exact .inl (r.rd h (k.tup h)).1
 ·exact .inr h
theorem Gr.ls(r:Gr q g g' H H'){a:Addr}{xs:List V}(h:O8 K g H a xs):O8 K g' H' a xs:=by
 rcases h with⟨h,n⟩|h
 ·exact .inl (r.rd h n)
 ·exact .inr h
theorem Gr.tb(r:Gr q g g' H H'){h:Nat}{a:Addr}(e:g.tbl[h]?=some a):g'.tbl[h]?=some a:=by
 obtain⟨m,em⟩:=r.tbl
 rw[em,aqP (aqG.mp e).1]
 exact e
mutual
theorem Rep.gr(r:Gr q g g' H H')(k:Kd g H):∀{v:V} {d:Dat},Rep K g H v d->Rep K g' H' v d
 |_,_,.non=>.non
 |_,_,.bl b=>.bl b
 |_,_,.int i=>.int i
 |_,_,.str x=>.str x
 |_,_,.tup h t=>.tup (r.sqT k h) (aH.gr r k t)
 |_,_,.lst h t=>.lst (r.ls h) (aH.gr r k t)
 |_,_,.obj h=>.obj (r.tb h)
theorem aH.gr(r:Gr q g g' H H')(k:Kd g H):∀{vs:List V} {ds:List Dat},aH K g H vs ds->aH K g' H' vs ds
 |_,_,.nil=>.nil
 |_,_,.cons h t=>.cons (Rep.gr r k h) (aH.gr r k t)
end
mutual
theorem Rep.less(e:g'.tbl=g.tbl)(n:∀a,g'.A a->g.A a):∀{v:V} {d:Dat},Rep K g H v d->Rep K g' H v d
 |_,_,.non=>.non
 |_,_,.bl b=>.bl b
 |_,_,.int i=>.int i
 |_,_,.str x=>.str x
 |_,_,.tup h t=>.tup h (aH.less e n t)
 |_,_,.lst h t=>.lst (h.elim (fun z=>.inl ⟨z.1,fun y=>z.2 (n _ y)⟩) .inr) (aH.less e n t)
 |_,_,.obj h=>.obj (by rw[e];exact h)
theorem aH.less(e:g'.tbl=g.tbl)(n:∀a,g'.A a->g.A a):∀{vs:List V} {ds:List Dat},aH K g H vs ds->aH K g' H vs ds
 |_,_,.nil=>.nil
 |_,_,.cons h t=>.cons (Rep.less e n h) (aH.less e n t)
end
mutual
def lf:Dat->Bool
 |.list _=>false
 |.tuple ds=>lfs ds
 |.dict _=>true
 |.none=>true
 |.bool _=>true
 |.int _=>true
 |.str _=>true
def lfs:List Dat->Bool
 |[]=>true
 |d::ds=>lf d&&lfs ds
end
mutual
theorem Rep.free(e:g'.tbl=g.tbl):∀{v:V} {d:Dat},lf d=true->Rep K g H v d->Rep K g' H v d
 |_,_,_,.non=>.non
 |_,_,_,.bl b=>.bl b
 |_,_,_,.int i=>.int i
 |_,_,_,.str x=>.str x
 |_,_,f,.tup h t=>.tup h (aH.free e (by rw[lf]at f;exact f) t)
 |_,_,f,.lst h t=>by rw[lf]at f;cases f
 |_,_,_,.obj h=>.obj (by rw[e];exact h)
theorem aH.free(e:g'.tbl=g.tbl):∀{vs:List V} {ds:List Dat},lfs ds=true->aH K g H vs ds->aH K g' H vs ds
 |_,_,_,.nil=>.nil
 |_,_,f,.cons h t=>.cons (Rep.free e (by rw[lfs,aqF]at f;exact f.1) h) (aH.free e (by rw[lfs,aqF]at f;exact f.2) t)
end
theorem aH.length:∀{vs:List V} {ds:List Dat},aH K g H vs ds->vs.length=ds.length
 |_,_,.nil=>rfl
 |_,_,.cons _ t=>congrArg (· + 1) t.length
theorem aH.get:∀{vs:List V} {ds:List Dat} {i:Nat} {d:Dat},aH K g H vs ds->ds[i]?=some d->∃v,vs[i]?=some v/\Rep K g H v d
 |_,_,_,_,.nil,e=>by simp at e
 |_,_,0,_,.cons h _,e=>by simp at e;subst e;exact⟨_,rfl,h⟩
 |_,_,i+1,_,.cons _ t,e=>by simpa using t.get (i:=i) (by simpa using e)
theorem aH.get':∀{vs:List V} {ds:List Dat} {i:Nat} {v:V},aH K g H vs ds->vs[i]?=some v->∃d,ds[i]?=some d/\Rep K g H v d
 |_,_,_,_,.nil,e=>by simp at e
 |_,_,0,_,.cons h _,e=>by simp at e;subst e;exact⟨_,rfl,h⟩
 |_,_,i+1,_,.cons _ t,e=>by simpa using t.get' (i:=i) (by simpa using e)
theorem aH.append:∀{vs ws:List V} {ds es:List Dat},aH K g H vs ds->aH K g H ws es->aH K g H (vs++ws) (ds++es)
 |_,_,_,_,.nil,t=>t
 |_,_,_,_,.cons h r,t=>.cons h (r.append t)
theorem aH.take:∀{vs:List V} {ds:List Dat} (n:Nat),aH K g H vs ds->aH K g H (vs.take n) (ds.take n)
 |_,_,0,_=>.nil
 |_,_,_+1,.nil=>.nil
 |_,_,n+1,.cons h t=>.cons h (t.take n)
theorem aH.drop:∀{vs:List V} {ds:List Dat} (n:Nat),aH K g H vs ds->aH K g H (vs.drop n) (ds.drop n)
 |_,_,0,t=>t
 |_,_,_+1,.nil=>.nil
 |_,_,n+1,.cons _ t=>t.drop n
theorem aH.set{v:V}{d:Dat}(r:Rep K g H v d):∀{vs:List V} {ds:List Dat} (i:Nat),aH K g H vs ds->aH K g H (vs.set i v) (ds.set i d)
 |_,_,_,.nil=>.nil
 |_,_,0,.cons _ t=>.cons r t
 |_,_,i+1,.cons h t=>.cons h (t.set r i)
theorem Gr.upd{l:Addr}{o o':HO}(k:Kd g H)(h:H l=some o)(w:(g.W l/\q=false)∨g.Lo l):Gr q g g H (L2.upd H l o') where
 keep:=fun a u e nw nl=>by
  rw[upd_ne (fun z=>by subst z;exact w.elim (fun w=>nw w.1) nl)]
  exact e
 keepW:=fun hq a u e wa=>by
  rcases w with w|w
  ·rw[hq]at w
   cases w.2
  ·rw[upd_ne (fun z=>by subst z;exact k.lo _ w wa)]
   exact e
 dom:=fun a e=>by
  by_cases z:a=l
  ·subst z
   rw[upd_same]at e
   cases e
  ·rw[upd_ne z]at e
   exact e
 tbl:=⟨[],by simp⟩
 W:=fun _ h=>h
 nW:=fun _ h=>.inl h
 qg:=fun _=>⟨rfl,rfl⟩
 Lc:=rfl
 Lo:=fun _ h=>h
 nLo:=fun _ h=>.inl h
theorem Kd.ex(k:Kd g H)(e:Ex H H'):Kd g H':=⟨fun a z=>let ⟨o,h,m⟩:=k.ob a z;⟨o,e a o h,m⟩,k.lo,k.lc⟩
theorem Kd.upd(k:Kd g H){l:Addr}{o:HO}(m:Jc o):Kd g (L2.upd H l o):=⟨fun a z=>by
 by_cases e:a=l
 ·subst e
  exact⟨o,upd_same,m⟩
 ·rw[upd_ne e]
  exact k.ob a z,k.lo,k.lc⟩
theorem Rep.ex(e:Ex H H')(k:Kd g H)(h:Rep K g H v d):Rep K g H' v d:=h.gr (Gr.ex (q:=true) e) k
theorem aH.ex{vs:List V}{ds:List Dat}(e:Ex H H')(k:Kd g H)(h:aH K g H vs ds):aH K g H' vs ds:=h.gr (Gr.ex (q:=true) e) k
end
def keyD:Key->Dat
 |.inl i=>.int i
 |.inr x=>.str x
def iD(l:Addr)(o:Obj):HO:=.ext fun h=>h.get? l=some o
abbrev mj:Type:=NestedKey×Addr×Value
def ade(w:World)(x:mj):DictEntry:=⟨x.1.hash w,.ref x.2.1,x.2.2⟩
structure lA(w:World)(l:Addr)(o:Obj)(xs:List mj):Prop where
 sys:(l==sysModules)=false
 ex:o.ExactDict
 ent:∃es ep,o.data=.dict es ep/\es.toList=xs.map (ade w)
 nd:(xs.map (·.1)).Nodup
 len:xs.length<=sizeLine
 dep:∀x∈xs,x.1.depth<=8
def ju(K:aqE)(aj:aO)(g:Gh)(H:Hp)(l:Addr):Bool->List (Dat×Dat)->Prop
 |false,kvs=>∃kv:List (Key×V),H l=some (.dK kv)/\kvs.map (·.1)=kv.map (fun p=>keyD p.1)/\aH K g H (kv.map (·.2)) (kvs.map (·.2))
 |true,kvs=>∃(o:Obj) (xs:List mj) (vs:List V),H l=some (iD l o)/\lA aj.w l o xs/\kvs.map (·.1)=xs.map (fun x=>x.1.data)/\aH K g H (xs.map fun x=>V.ref x.2.1) (kvs.map (·.1))/\Vals vs (xs.map (·.2.2))/\aH K g H vs (kvs.map (·.2))
def dR(K:aqE)(aj:aO)(g:Gh)(H:Hp)(h:Nat)(f:Str)(v:V):iW->Prop
 |.dat d=>Rep K g H v d
 |.lst n xs=>∃l us,v=.ref l/\H l=some (.lst us)/\g.ow l=some (h,f)/\aH K g H us xs/\g.tbl[n]?=some l
 |.dic n kvs=>∃l,v=.ref l/\g.ow l=some (h,f)/\ju K aj g H l n kvs
inductive cO(K:aqE)(aj:aO)(g:Gh)(H:Hp)(h:Nat):List (Str×V)->List (Str×iW)->Prop
 |nil:cO K aj g H h [] []
 |cons {f:Str} {v:V} {fl:iW} {fs:List (Str×V)} {gs:List (Str×iW)}:dR K aj g H h f v fl->cO K aj g H h fs gs->cO K aj g H h ((f,v)::fs) ((f,fl)::gs)
structure fU(K:aqE)(aj:aO)(g:Gh)(H:Hp)(M:Mo):Prop where
 len:g.tbl.length=M.length
 inj:∀(h k:Nat) (a:Addr),g.tbl[h]?=some a->g.tbl[k]?=some a->h=k
 ins:∀(h:Nat) (a:Addr) (i:Inst),g.tbl[h]?=some a->M[h]?=some i->i.cls≠""->∃C dx fs,aj i.cls=some C/\H a=some (.ins C dx fs)/\cO K aj g H h fs i.fs
 nd:∀(h:Nat) (i:Inst),M[h]?=some i->(i.fs.map (·.1)).Nodup
 fd:∀(h:Nat) (i:Inst),M[h]?=some i->∀f∈i.fs.map (·.1),f∈aj.fl i.cls
 tw:∀(h:Nat) (a:Addr) (i:Inst),g.tbl[h]?=some a->M[h]?=some i->i.cls≠""->g.ow a=none
 dm:∀(h:Nat) (i:Inst),M[h]?=some i->i.cls=""->i.fs=[]
 nc:aj ""=none
structure SInv(K:aqE)(aj:aO)(σ:L2.St)(H:Hp)(g:Gh)(ρ:Env)(M:Mo):Prop where
 kd:Kd g H
 wok:fU K aj g H M
 len:σ.length=ρ.length
 dat:∀(i:Nat) (d:Dat),ρ[i]?=some (some (.dat d))->∃v,σ[i]?=some (some v)/\Rep K g H v d
 own:∀(i:Nat) (xs:List Dat),ρ[i]?=some (some (.mut xs))->∃l us,σ[i]?=some (some (.ref l))/\H l=some (.lst us)/\g.Lo l/\aH K g H us xs
 sep:∀(i j:Nat) (xs ys:List Dat) (l:Addr),i≠j->ρ[i]?=some (some (.mut xs))->ρ[j]?=some (some (.mut ys))->σ[i]?=some (some (.ref l))->σ[j]?≠some (some (.ref l))
section
variable{K:aqE}{aj:aO}{q:Bool}{g g' g2:Gh}{H H' H2:Hp}{v:V}{d:Dat}{σ:L2.St}{ρ:Env}{M:Mo}
theorem ju.ex{l:Addr}:∀{n:Bool} {kvs:List (Dat×Dat)} (e:Ex H H') (k:Kd g H) (h:ju K aj g H l n kvs),ju K aj g H' l n kvs
 |false,_,e,k,⟨kv,h1,h2,h3⟩=>⟨kv,e _ _ h1,h2,h3.ex e k⟩
 |true,_,e,k,⟨o,xs,vs,h1,h2,h3,h4,h5,h6⟩=>⟨o,xs,vs,e _ _ h1,h2,h3,h4.ex e k,h5,h6.ex e k⟩
theorem dR.ex{h:Nat}{f:Str}(e:Ex H H')(k:Kd g H):∀{fl:iW},dR K aj g H h f v fl->dR K aj g H' h f v fl
 |.dat _,r=>Rep.ex e k r
 |.lst _ _,⟨l,us,h1,h2,h3,h4,h5⟩=>⟨l,us,h1,e _ _ h2,h3,h4.ex e k,h5⟩
 |.dic _ _,⟨l,h1,h2,h3⟩=>⟨l,h1,h2,h3.ex e k⟩
theorem cO.ex{h:Nat}(e:Ex H H')(k:Kd g H):∀{fs:List (Str×V)} {gs:List (Str×iW)},cO K aj g H h fs gs->cO K aj g H' h fs gs
 |_,_,.nil=>.nil
 |_,_,.cons r t=>.cons (dR.ex e k r) (cO.ex e k t)
theorem fU.ex(e:Ex H H')(k:Kd g H)(w:fU K aj g H M):fU K aj g H' M:=⟨w.len,w.inj,fun h a i ha hi hc=>by
 obtain⟨C,dx,fs,c1,c2,c3⟩:=w.ins h a i ha hi hc
 exact⟨C,dx,fs,c1,e _ _ c2,c3.ex e k⟩,w.nd,w.fd,w.tw,w.dm,w.nc⟩
theorem SInv.ex(e:Ex H H')(I:SInv K aj σ H g ρ M):SInv K aj σ H' g ρ M:=⟨I.kd.ex e,I.wok.ex e I.kd,I.len,fun i d h=>by
 obtain⟨v,h1,h2⟩:=I.dat i d h
 exact⟨v,h1,h2.ex e I.kd⟩,fun i xs h=>by
 obtain⟨l,us,h1,h2,h3,h4⟩:=I.own i xs h
 exact⟨l,us,h1,e _ _ h2,h3,h4.ex e I.kd⟩,I.sep⟩
theorem cO.get{h:Nat}{f:Str}{fl:iW}:∀{fs:List (Str×V)} {gs:List (Str×iW)},cO K aj g H h fs gs->gs.lookup f=some fl->∃v,fs.lookup f=some v/\dR K aj g H h f v fl
 |_,_,.nil,e=>nomatch e
 |_,_,.cons (f:=f') (v:=v) (fl:=fl') r t,e=>by
  rw[aq6]at e
  rw[aq6]
  cases hb:f==f' with
  |true=>
   rw[hb]at e
   cases e
   have ef:f=f':=by simpa using hb
   subst ef
   exact⟨v,rfl,r⟩
  |false=>
   rw[hb]at e
   exact t.get e
theorem cO.no{h:Nat}{f:Str}:∀{fs:List (Str×V)} {gs:List (Str×iW)},cO K aj g H h fs gs->gs.lookup f=none->fs.lookup f=none
 |_,_,.nil,_=>rfl
 |_,_,.cons (f:=f') (v:=v) (fl:=fl') r t,e=>by
  rw[aq6]at e
  rw[aq6]
  cases hb:f==f' with
  |true=>
   rw[hb]at e
   cases e
  |false=>
   rw[hb]at e
   exact t.no e
end
def Out.bind{α β:Type}(o:Out α)(k:α->Out β):Out β:=
 match o with
 |.ok a=>k a
 |.exc x=>.exc x
 |.bad=>.bad
def Out.sat{α:Type}(o:Out α)(P:α->Prop)(E:dJ->Prop):Prop:=
 match o with
 |.ok a=>P a
 |.exc x=>E x
 |.bad=>False
@[simp]theorem Out.xY {α β:Type} (a:α) (k:α->Out β):(Out.ok a).bind k=k a:=rfl
@[simp]theorem Out.afu {α β:Type} (x:dJ) (k:α->Out β):(Out.exc x:Out α).bind k=.exc x:=rfl
@[simp]theorem Out.afj {α β:Type} (k:α->Out β):(Out.bad:Out α).bind k=.bad:=rfl
theorem Out.sat.bnd{α β:Type}{o:Out α}{k:α->Out β}{P:β->Prop}{E:dJ->Prop}(h:(o.bind k).sat P E):o.sat (fun a=>(k a).sat P E) E:=by
 cases o <;> exact h
theorem Out.sat.mono{α:Type}{o:Out α}{P P':α->Prop}{E E':dJ->Prop}(h:o.sat P E)(hp:∀a,P a->P' a)(he:∀x,E x->E' x):o.sat P' E':=by
 cases o
 ·exact hp _ h
 ·exact he _ h
 ·exact h
def Out.when{α:Type}(b:Bool)(o:Out α):Out α:=if b=true then o else .bad
@[simp]theorem Out.V5 {α:Type} (o:Out α):Out.when true o=o:=rfl
@[simp]theorem Out.aly {α:Type} (o:Out α):Out.when false o=.bad:=rfl
theorem Out.sat.pU{α:Type}{b:Bool}{o:Out α}{P:α->Prop}{E:dJ->Prop}(h:(Out.when b o).sat P E):b=true/\o.sat P E:=by
 cases b
 ·exact False.elim h
 ·exact⟨rfl,h⟩
inductive kJ(K:aqE)(g:Gh)(H:Hp):List (Str×V)->List (Str×Dat)->Prop
 |nil:kJ K g H [] []
 |cons {f:Str} {v:V} {d:Dat} {fs:List (Str×V)} {gs:List (Str×Dat)}:Rep K g H v d->kJ K g H fs gs->kJ K g H ((f,v)::fs) ((f,d)::gs)
def qd(K:aqE)(aj:aO)(g:Gh)(H:Hp)(x:dJ)(c:Value)(dd:Option Addr):Prop:=
 ∃C,aj x.cls=some C/\c=.ref C/\((x.fs=[]/\dd=none)∨∃a fs,dd=some a/\H a=some (.xd fs)/\kJ K g H fs x.fs)
abbrev QF:=Mo->Env->Out Dat
abbrev QT:=Mo->Env->Out Bool
abbrev QA:=Mo->Env->Out (List Dat)
section
variable(K:aqE)(aj:aO)(W:WX)
def qG(g:Gh)(H:Hp)(σ:L2.St)(x:dJ):Prop:=∀H' c dd,Ex H H'->qd K aj g H' x c dd->W c dd σ H'
def tQ(f:QF):TE:=fun σ H Q=>∃g ρ M,SInv K aj σ H g ρ M/\(f M ρ).sat (fun d=>∀v H',Ex H H'->Rep K g H' v d->Q v H') (qG K aj W g H σ)
def j9(f:QT):TT:=fun σ H Q=>∃g ρ M,SInv K aj σ H g ρ M/\(f M ρ).sat (fun b=>∀H',Ex H H'->Q b H') (qG K aj W g H σ)
def M6(f:QA):TA:=fun σ H Q=>∃g ρ M,SInv K aj σ H g ρ M/\(f M ρ).sat (fun ds=>∀vs H',Ex H H'->aH K g H' vs ds->Q vs H') (qG K aj W g H σ)
end
section
variable{K:aqE}{aj:aO}{W:WX}{g:Gh}{H H1:Hp}{σ:L2.St}{ρ:Env}{M:Mo}
theorem qG.ex{x:dJ}(e:Ex H H1)(h:qG K aj W g H σ x):qG K aj W g H1 σ x:=fun H' c dd e' r=>h H' c dd (e.trans e') r
theorem tQ.go{f:QF}{k:Dat->Prop}{Q:VK}(I:SInv K aj σ H g ρ M)(h:(f M ρ).sat k (qG K aj W g H σ))(hk:∀d v H',k d->Ex H H'->Rep K g H' v d->Q v H'):tQ K aj W f σ H Q:=
 ⟨g,ρ,M,I,h.mono (fun d hd v H' e r=>hk d v H' hd e r) fun _ z=>z⟩
theorem j9.go{f:QT}{k:Bool->Prop}{Q:Bool->Hp->Prop}(I:SInv K aj σ H g ρ M)(h:(f M ρ).sat k (qG K aj W g H σ))(hk:∀b H',k b->Ex H H'->Q b H'):j9 K aj W f σ H Q:=
 ⟨g,ρ,M,I,h.mono (fun d hd H' e=>hk d H' hd e) fun _ z=>z⟩
theorem M6.go{f:QA}{k:List Dat->Prop}{Q:List V->Hp->Prop}(I:SInv K aj σ H g ρ M)(h:(f M ρ).sat k (qG K aj W g H σ))(hk:∀ds vs H',k ds->Ex H H'->aH K g H' vs ds->Q vs H'):M6 K aj W f σ H Q:=
 ⟨g,ρ,M,I,h.mono (fun d hd v H' e r=>hk d v H' hd e r) fun _ z=>z⟩
end
def QE(aj:aO)(X:Cx)(W:WX)(e:Expr)(f:QF):Prop:=PE X e (tQ X.K aj W f)
def rM(aj:aO)(X:Cx)(W:WX)(e:Expr)(f:QT):Prop:=PT X e (j9 X.K aj W f)
def Dy(aj:aO)(X:Cx)(W:WX)(es:List Expr)(f:QA):Prop:=PA X es (M6 X.K aj W f)
theorem PE.weak{X:Cx}{e:Expr}{t t':TE}(h:PE X e t)(k:∀σ H Q,t' σ H Q->t σ H Q):PE X e t':=⟨fun pins s σ H Q I q=>h.run pins s σ H Q I (k σ H Q q)⟩
theorem PT.weak{X:Cx}{e:Expr}{t t':TT}(h:PT X e t)(k:∀σ H Q,t' σ H Q->t σ H Q):PT X e t':=⟨fun pins s σ H Q I q=>h.run pins s σ H Q I (k σ H Q q)⟩
theorem PA.weak{X:Cx}{e:List Expr}{t t':TA}(h:PA X e t)(k:∀σ H Q,t' σ H Q->t σ H Q):PA X e t':=⟨fun pos pins s σ H Q I q=>h.run pos pins s σ H Q I (k σ H Q q)⟩
def aq(i:Nat):QF:=fun _ ρ=>match ρ[i]? with
 |some (some (.dat d))=>.ok d
 |_=>.bad
def qC(d:Dat):QF:=fun _ _=>.ok d
def aA(o:Dat->Dat->Out Dat)(a b:QF):QF:=fun M ρ=>(a M ρ).bind fun x=>(b M ρ).bind fun y=>o x y
def fH(o:Dat->Out Dat)(a:QF):QF:=fun M ρ=>(a M ρ).bind o
def au:QA:=fun _ _=>.ok []
def ak(a:QF)(r:QA):QA:=fun M ρ=>(a M ρ).bind fun x=>(r M ρ).bind fun xs=>.ok (x::xs)
def bA(r:QA):QF:=fun M ρ=>(r M ρ).bind fun xs=>Out.when (decide (xs.length<=100000)) (.ok (.tuple xs))
def Ae(r:QA):QF:=fun M ρ=>(r M ρ).bind fun xs=>Out.when (decide (xs.length<=100000)) (.ok (.list xs))
section
variable{X:Cx}{aj:aO}{W:WX}{a b:Expr}{fa fb:QF}{pos:Pos}
theorem akK{i:Nat}{x:Str}(hN:X.N[i]?=some x)(hv:Vis X.env.scope x)(hd:(x==("__debug__" : Str))=false)(hcd:(x==("__classdict__" : Str))=false):QE aj X W (.Name x pos) (aq i):=
 PE.weak (pe_var hN hv hd hcd) fun σ H Q ⟨g,ρ,M,I,h⟩=>by
  unfold aq at h
  split at h
  ·next d e=>
   obtain⟨v,h1,h2⟩:=I.dat i d e
   exact⟨v,h1,h v H (Ex.refl H) h2⟩
  ·exact False.elim h
theorem akd{i:Int}{j:Nat}:QE aj X W (.Constant (.int i) j pos) (qC (.int i)):=PE.weak pe_int fun σ H Q ⟨g,ρ,M,I,h⟩=>h _ H (Ex.refl H) (.int i)
theorem ah2{x:Str}{j:Nat}:QE aj X W (.Constant (.str x) j pos) (qC (.str x)):=PE.weak pe_str fun σ H Q ⟨g,ρ,M,I,h⟩=>h _ H (Ex.refl H) (.str x)
theorem akU{x:Bool}{j:Nat}:QE aj X W (.Constant (.bool x) j pos) (qC (.bool x)):=PE.weak pe_bl fun σ H Q ⟨g,ρ,M,I,h⟩=>h _ H (Ex.refl H) (.bl x)
theorem aip{j:Nat}:QE aj X W (.Constant .none j pos) (qC .none):=PE.weak pe_non fun σ H Q ⟨g,ρ,M,I,h⟩=>h _ H (Ex.refl H) .non
theorem akr:Dy aj X W [] au:=PA.weak pa_nil fun σ H Q ⟨g,ρ,M,I,h⟩=>h [] H (Ex.refl H) .nil
theorem agM{es:List Expr}{fr:QA}(ha:QE aj X W a fa)(hr:Dy aj X W es fr)(hs:starEach (a::es) X.env=(false,eval a X.env)::starEach es X.env):Dy aj X W (a::es) (ak fa fr):=
 PA.weak (pa_cons ha hr hs) fun σ H Q ⟨g,ρ,M,I,h⟩=>by
  refine tQ.go I h.bnd fun d v H1 h1 e1 r1=>?_
  refine M6.go (I.ex e1) (h1.bnd.mono (fun _ z=>z) fun _ z=>z.ex e1) fun ds vs H2 h2 e2 r2=>?_
  exact h2 (v::vs) H2 (e1.trans e2) (.cons (r1.ex e2 (I.kd.ex e1)) r2)
theorem ajh{es:List Expr}{fr:QA}{k:Nat}(h:Dy aj X W es fr):QE aj X W (.Tuple es k pos) (bA fr):=
 PE.weak (pe_tup h) fun σ H Q ⟨g,ρ,M,I,h⟩=>by
  refine M6.go I h.bnd fun ds vs H1 h1 e1 r1=>?_
  obtain⟨hz,h1⟩:=h1.pU
  have hl:vs.length<=100000:=by
   rw[r1.length]
   exact of_decide_eq_true hz
  refine⟨sz_of hl,fun p np=>h1 (.ref p) _ (e1.trans (Ex.new np)) (.tup (st_of upd_same) (r1.ex (Ex.new np) (I.kd.ex e1)))⟩
theorem Kd.fresh{g:Gh}{H:Hp}(k:Kd g H){p:Addr}(n:H p=none):¬g.A p:=fun z=>by
 obtain⟨o,e,_⟩:=k.ob p z
 rw[n]at e
 cases e
theorem aiw{es:List Expr}{fr:QA}(h:Dy aj X W es fr):QE aj X W (.List es pos) (Ae fr):=
 PE.weak (pe_lst h) fun σ H Q ⟨g,ρ,M,I,h⟩=>by
  refine M6.go I h.bnd fun ds vs H1 h1 e1 r1=>?_
  obtain⟨hz,h1⟩:=h1.pU
  have hl:vs.length<=100000:=by
   rw[r1.length]
   exact of_decide_eq_true hz
  refine⟨sz_of hl,fun p np=>h1 (.ref p) _ (e1.trans (Ex.new np)) (.lst (.inl ⟨.inl upd_same,(I.kd.ex e1).fresh np⟩) (r1.ex (Ex.new np) (I.kd.ex e1)))⟩
end
def dW(K:aqE)(g:Gh)(H:Hp)(v:V):Dat->Prop
 |.list ds=>∃a us,v=.ref a/\SqL K H a us/\aH K g H us ds
 |d=>Rep K g H v d
section
variable{K:aqE}{g:Gh}{H H':Hp}{v:V}{d:Dat}
theorem Rep.weak(h:Rep K g H v d):dW K g H v d:=by
 cases h with
 |lst a t=>exact⟨_,_,rfl,a.sq,t⟩
 |non=>exact .non
 |bl b=>exact .bl b
 |int i=>exact .int i
 |str x=>exact .str x
 |tup a t=>exact .tup a t
 |obj a=>exact .obj a
theorem dW.ex(e:Ex H H')(k:Kd g H)(h:dW K g H v d):dW K g H' v d:=by
 cases d with
 |list ds=>
  obtain⟨a,us,h1,h2,h3⟩:=h
  exact⟨a,us,h1,ex_l e h2,h3.ex e k⟩
 |_=>exact Rep.ex e k h
theorem cG{i:Int}(h:dW K g H v (.int i)):v=.int i:=by cases h;rfl
theorem jL{x:Str}(h:dW K g H v (.str x)):v=.str x:=by cases h;rfl
theorem CK{b:Bool}(h:dW K g H v (.bool b)):v=.bl b:=by cases h;rfl
theorem Fg(h:dW K g H v .none):v=.non:=by cases h;rfl
theorem lF{ds:List Dat}(h:dW K g H v (.tuple ds)):∃a us,v=.ref a/\SqT K H a us/\aH K g H us ds:=by
 cases h with
 |tup a t=>exact⟨_,_,rfl,a,t⟩
theorem iY{ds:List Dat}(h:dW K g H v (.list ds)):∃a us,v=.ref a/\SqL K H a us/\aH K g H us ds:=h
theorem JT{n:Nat}(h:dW K g H v (obj n)):∃a,v=.ref a/\g.tbl[n]?=some a:=by
 cases h with
 |obj a=>exact⟨_,rfl,a⟩
end
section
variable(K:aqE)(aj:aO)(W:WX)
def tW(f:QF):TE:=fun σ H Q=>∃g ρ M,SInv K aj σ H g ρ M/\(f M ρ).sat (fun d=>∀v H',Ex H H'->dW K g H' v d->Q v H') (qG K aj W g H σ)
end
theorem tW.go{K:aqE}{aj:aO}{W:WX}{g:Gh}{H:Hp}{σ:L2.St}{ρ:Env}{M:Mo}{f:QF}{k:Dat->Prop}{Q:VK}(I:SInv K aj σ H g ρ M)(h:(f M ρ).sat k (qG K aj W g H σ))(hk:∀d v H',k d->Ex H H'->dW K g H' v d->Q v H'):tW K aj W f σ H Q:=
 ⟨g,ρ,M,I,h.mono (fun d hd v H' e r=>hk d v H' hd e r) fun _ z=>z⟩
def QW(aj:aO)(X:Cx)(W:WX)(e:Expr)(f:QF):Prop:=PE X e (tW X.K aj W f)
theorem QE.w{aj:aO}{X:Cx}{W:WX}{e:Expr}{f:QF}(h:QE aj X W e f):QW aj X W e f:=
 PE.weak h fun σ H Q ⟨g,ρ,M,I,z⟩=>⟨g,ρ,M,I,z.mono (fun _ k v H' e r=>k v H' e r.weak) fun _ y=>y⟩
def ao(i:Nat):QF:=fun _ ρ=>match ρ[i]? with
 |some (some (.dat d))=>.ok d
 |some (some (.mut xs))=>.ok (.list xs)
 |_=>.bad
def pQ(aj:aO)(K:aqE)(W:WX)(o:Dat->Dat->Out Dat)(r:R2):Prop:=∀(σ:L2.St) (g:Gh) (H:Hp) (x y:V) (d e:Dat) (Q:VK),Kd g H->dW K g H x d->dW K g H y e->
 (o d e).sat (fun z=>∀v H',Ex H H'->Rep K g H' v z->Q v H') (qG K aj W g H σ)->r x y H Q
section
variable{X:Cx}{aj:aO}{W:WX}{a b c:Expr}{fa fb fc:QF}{pos:Pos}
theorem ajC{i:Nat}{x:Str}(hN:X.N[i]?=some x)(hv:Vis X.env.scope x)(hd:(x==("__debug__" : Str))=false)(hcd:(x==("__classdict__" : Str))=false):QW aj X W (.Name x pos) (ao i):=
 PE.weak (pe_var hN hv hd hcd) fun σ H Q ⟨g,ρ,M,I,h⟩=>by
  unfold ao at h
  split at h
  ·next d e=>
   obtain⟨v,h1,h2⟩:=I.dat i d e
   exact⟨v,h1,h v H (Ex.refl H) h2.weak⟩
  ·next xs e=>
   obtain⟨l,us,h1,h2,h3,h4⟩:=I.own i xs e
   exact⟨.ref l,h1,h _ H (Ex.refl H) ⟨l,us,rfl,sq_of h2,h4⟩⟩
  ·exact False.elim h
theorem Qc{o:Dat->Dat->Out Dat}{r:R2}(ho:pQ aj X.K W o r)(σ:L2.St)(H:Hp)(Q:VK)(h:tQ X.K aj W (aA o fa fb) σ H Q):tOp r (tW X.K aj W fa) (tW X.K aj W fb) σ H Q:=by
 obtain⟨g,ρ,M,I,h⟩:=h
 refine tW.go I h.bnd fun d v H1 h1 e1 r1=>?_
 refine tW.go (I.ex e1) (h1.bnd.mono (fun _ z=>z) fun _ z=>z.ex e1) fun d2 v2 H2 h2 e2 r2=>?_
 refine ho σ g H2 v v2 d d2 Q ((I.kd.ex e1).ex e2) (r1.ex e2 (I.kd.ex e1)) r2 (h2.mono (fun z hz u H' e' r'=>hz u H' ((e1.trans e2).trans e') r') fun _ z=>(z.ex e1).ex e2)
theorem ajz{op:Operator}{r:R2}{o:Dat->Dat->Out Dat}(hr:OpR X (binaryOp op) r)(ho:pQ aj X.K W o r)(ha:QW aj X W a fa)(hb:QW aj X W b fb):QE aj X W (.BinOp a op b pos) (aA o fa fb):=
 PE.weak (pe_op hr ha hb) fun σ H Q h=>Qc ho σ H Q h
theorem ahI{op:CmpOp}{r:R2}{o:Dat->Dat->Out Dat}(hr:OpR X (compareOp op) r)(ho:pQ aj X.K W o r)(ha:QW aj X W a fa)(hb:QW aj X W b fb)(hm:behindInMarks op b=false):QE aj X W (.Compare a [op] [b] pos) (aA o fa fb):=
 PE.weak (pe_cmpR hr ha hb hm) fun σ H Q h=>Qc ho σ H Q h
end
instance:DecidableRel CMul:=fun i j=>by unfold CMul;infer_instance
instance:DecidableRel CDiv:=fun i j=>by unfold CDiv;infer_instance
instance:DecidableRel CPow:=fun i j=>by unfold CPow;infer_instance
def dY:Dat->Dat->Out Dat
 |.int i,.int j=>.ok (.int (i+j))
 |.str x,.str y=>Out.when (decide (x.length+y.length<=100000)) (.ok (.str (x++y)))
 |.list xs,.list ys=>Out.when (decide (xs.length+ys.length<=100000)) (.ok (.list (xs++ys)))
 |.tuple xs,.tuple ys=>Out.when (decide (xs.length+ys.length<=100000)) (.ok (.tuple (xs++ys)))
 |_,_=>.bad
def lg:Dat->Dat->Out Dat
 |.int i,.int j=>.ok (.int (i - j))
 |_,_=>.bad
def wM:Dat->Dat->Out Dat
 |.int i,.int j=>Out.when (decide (CMul i j)) (.ok (.int (i * j)))
 |_,_=>.bad
def Af:Dat->Dat->Out Dat
 |.int i,.int j=>Out.when (decide (CDiv i j)) (.ok (.int (i / j)))
 |_,_=>.bad
def jP:Dat->Dat->Out Dat
 |.int i,.int j=>Out.when (decide (0 < j)) (.ok (.int (i % j)))
 |_,_=>.bad
def Oh:Dat->Dat->Out Dat
 |.int i,.int j=>Out.when (decide (CPow i j)) (.ok (.int (i ^ j.toNat)))
 |_,_=>.bad
def rCatS(K:aqE):R2:=fun x y H Q=>∃l b xs zs,x=.ref l/\y=.ref b/\SqL K H l xs/\SqL K H b zs/\xs.length+zs.length<=sizeLine/\∀p,H p=none->Q (.ref p) (upd H p (.lst (xs++zs)))
theorem agF{X:Cx}:OpR X (binaryOp .Add) (rCatS X.K):=by
 intro pins s σ H x y v u Q I rx ry h
 obtain⟨l,b,xs,zs,rfl,rfl,hH,hB,hz,q⟩:=h
 cases rx
 cases ry
 obtain⟨its,r,⟨⟨c1,d1,da1,s1⟩,n,e,hc,hd,hs⟩,_⟩:=I.list hH
 obtain⟨its2,r2,⟨⟨c2,d2,da2,s2⟩,n2,e2,hc2,hd2,hs2⟩,_⟩:=I.list hB
 simp only at hc hd hs hc2 hd2 hs2
 subst hc hd hs hc2 hd2 hs2
 have l1:=r.length
 have l2:=r2.length
 have ea:its.toArray++its2.toArray=(its++its2).toArray:=by simp
 refine concat_meets ⟨_,e,rfl⟩ ⟨_,e2,rfl⟩ noFill_list_add seq_list_add PySem.F.slot_list_add PySem.F.entry_list_add (PySem.F.args_list_add_2 _ _) (list_addW l b its.toArray its2.toArray n n2 none none s1 s2 (by rw[arQ,arQ];omega)) ⟨e,e2,?_⟩
 rw[ea]
 exact⟨.ref _,_,I.lnew (t':=s.toks) (r.append r2) (by rw[arj];omega),rfl,q _ I.fresh⟩
def afO(K:aqE):R2:=fun x y H Q=>rI0 (fun i j=>.int (i+j)) x y H Q∨(∃i j,x=.str i/\y=.str j/\i.length+j.length<=sizeLine/\Q (.str (i++j)) H)∨rCatS K x y H Q∨rCatA K x y H Q
theorem agq{X:Cx}:OpR X (binaryOp .Add) (afO X.K):=by
 intro pins s σ H x y v u Q I rx ry h
 rcases h with h|h|h|h
 ·exact op_add pins s σ H x y v u Q I rx ry h
 ·exact op_add_str pins s σ H x y v u Q I rx ry h
 ·exact agF pins s σ H x y v u Q I rx ry h
 ·exact op_catA pins s σ H x y v u Q I rx ry h
section
variable{K:aqE}{aj:aO}{W:WX}
theorem aiz:pQ aj K W dY (afO K):=fun σ g H x y d e Q k rx ry h=>by
 unfold dY at h
 split at h
 ·exact .inl ⟨_,_,cG rx,cG ry,h _ H (Ex.refl H) (.int _)⟩
 ·obtain⟨hz,h⟩:=h.pU
  exact .inr (.inl ⟨_,_,jL rx,jL ry,sz_of (of_decide_eq_true hz),h _ H (Ex.refl H) (.str _)⟩)
 ·obtain⟨hz,h⟩:=h.pU
  obtain⟨l,us,e1,s1,t1⟩:=iY rx
  obtain⟨l2,us2,e2,s2,t2⟩:=iY ry
  have hl:=of_decide_eq_true hz
  rw[←t1.length,←t2.length]at hl
  refine .inr (.inr (.inl ⟨l,l2,us,us2,e1,e2,s1,s2,sz_of hl,fun p np=>h _ _ (Ex.new np) (.lst (.inl ⟨.inl upd_same,k.fresh np⟩) ((t1.append t2).ex (Ex.new np) k))⟩))
 ·obtain⟨hz,h⟩:=h.pU
  obtain⟨l,us,e1,s1,t1⟩:=lF rx
  obtain⟨l2,us2,e2,s2,t2⟩:=lF ry
  have hl:=of_decide_eq_true hz
  rw[←t1.length,←t2.length]at hl
  refine .inr (.inr (.inr ⟨l,l2,us,us2,e1,e2,s1,s2,sz_of hl,fun z=>?_,fun _ z=>?_,fun _ _ p np=>h _ _ (Ex.new np) (.tup (st_of upd_same) ((t1.append t2).ex (Ex.new np) k))⟩))
  ·subst z
   cases t1
   exact h _ H (Ex.refl H) (.tup s2 t2)
  ·subst z
   cases t2
   rw[ars]at h
   exact h _ H (Ex.refl H) (.tup s1 t1)
 ·exact False.elim h
theorem akp:pQ aj K W lg (rI0 fun i j=>.int (i - j)):=fun σ g H x y d e Q k rx ry h=>by
 unfold lg at h
 split at h
 ·exact⟨_,_,cG rx,cG ry,h _ H (Ex.refl H) (.int _)⟩
 ·exact False.elim h
theorem akC:pQ aj K W wM (rI CMul fun i j=>.int (i * j)):=fun σ g H x y d e Q k rx ry h=>by
 unfold wM at h
 split at h
 ·obtain⟨hz,h⟩:=h.pU
  exact⟨_,_,cG rx,cG ry,of_decide_eq_true hz,h _ H (Ex.refl H) (.int _)⟩
 ·exact False.elim h
theorem ajG:pQ aj K W Af (rI CDiv fun i j=>.int (i / j)):=fun σ g H x y d e Q k rx ry h=>by
 unfold Af at h
 split at h
 ·obtain⟨hz,h⟩:=h.pU
  exact⟨_,_,cG rx,cG ry,of_decide_eq_true hz,h _ H (Ex.refl H) (.int _)⟩
 ·exact False.elim h
theorem aju:pQ aj K W jP (rI (fun _ j=>0 < j) fun i j=>.int (i % j)):=fun σ g H x y d e Q k rx ry h=>by
 unfold jP at h
 split at h
 ·obtain⟨hz,h⟩:=h.pU
  exact⟨_,_,cG rx,cG ry,of_decide_eq_true hz,h _ H (Ex.refl H) (.int _)⟩
 ·exact False.elim h
theorem ajs:pQ aj K W Oh (rI CPow fun i j=>.int (i ^ j.toNat)):=fun σ g H x y d e Q k rx ry h=>by
 unfold Oh at h
 split at h
 ·obtain⟨hz,h⟩:=h.pU
  exact⟨_,_,cG rx,cG ry,of_decide_eq_true hz,h _ H (Ex.refl H) (.int _)⟩
 ·exact False.elim h
end
mutual
def okd:Nat->Dat->Bool
 |_,.none=>true
 |_,.bool _=>true
 |_,.int _=>true
 |_,.str x=>PyData.strOk x
 |n+1,.list ds=>mY n ds
 |n+1,.tuple ds=>mY n ds
 |0,.list _=>false
 |0,.tuple _=>false
 |_,.dict _=>false
def mY:Nat->List Dat->Bool
 |_,[]=>true
 |n,d::ds=>okd n d&&mY n ds
end
mutual
theorem TQ:∀(n:Nat) (d:Dat),okd n d=true->d.canLay0=true/\d.depth<=n
 |n,.none,_=>⟨by simp[PyData.canLay0],by simp[PyData.depth]⟩
 |n,.bool _,_=>⟨by simp[PyData.canLay0],by simp[PyData.depth]⟩
 |n,.int _,_=>⟨by simp[PyData.canLay0],by simp[PyData.depth]⟩
 |n,.str x,h=>⟨by rw[okd]at h;simp[PyData.canLay0,h],by simp[PyData.depth]⟩
 |n+1,.list ds,h=>by
  rw[okd]at h
  obtain⟨h1,h2⟩:=Nv n ds h
  exact⟨by simp[PyData.canLay0,h1],by simp[PyData.depth];omega⟩
 |n+1,.tuple ds,h=>by
  rw[okd]at h
  obtain⟨h1,h2⟩:=Nv n ds h
  exact⟨by simp[PyData.canLay0,h1],by simp[PyData.depth];omega⟩
 |0,.list _,h=>by rw[okd]at h;cases h
 |0,.tuple _,h=>by rw[okd]at h;cases h
 |n,.dict _,h=>by rw[okd]at h;cases h
theorem Nv:∀(n:Nat) (ds:List Dat),mY n ds=true->PyData.canLayAll0 ds=true/\PyData.depthAll ds<=n
 |n,[],_=>⟨by simp[PyData.canLayAll0],by simp[PyData.depthAll]⟩
 |n,d::ds,h=>by
  rw[mY,aqF]at h
  obtain⟨h1,h2⟩:=TQ n d h.1
  obtain⟨h3,h4⟩:=Nv n ds h.2
  exact⟨by simp[PyData.canLayAll0,h1,h3],by simp[PyData.depthAll];omega⟩
end
mutual
theorem Rep.dp{K:aqE}{g:Gh}{H:Hp}:∀{n:Nat} {v:V} {d:Dat},okd n d=true->Rep K g H v d->Dp K H v d
 |_,_,_,_,.non=>.non
 |_,_,_,_,.bl b=>.bl b
 |_,_,_,_,.int i=>.int i
 |_,_,_,_,.str x=>.str x
 |n+1,_,_,f,.tup h t=>.tup h (aH.dp (n:=n) (by rw[okd]at f;exact f) t)
 |n+1,_,_,f,.lst h t=>.lst h.sq (aH.dp (n:=n) (by rw[okd]at f;exact f) t)
 |0,_,_,f,.tup h t=>by rw[okd]at f;cases f
 |0,_,_,f,.lst h t=>by rw[okd]at f;cases f
 |_,_,_,f,.obj h=>by rw[okd]at f;cases f
theorem aH.dp{K:aqE}{g:Gh}{H:Hp}:∀{n:Nat} {vs:List V} {ds:List Dat},mY n ds=true->aH K g H vs ds->DpAll K H vs ds
 |_,_,_,_,.nil=>.nil
 |n,_,_,f,.cons h t=>.cons (Rep.dp (n:=n) (by rw[mY,aqF]at f;exact f.1) h) (aH.dp (n:=n) (by rw[mY,aqF]at f;exact f.2) t)
end
theorem dW.dp{K:aqE}{g:Gh}{H:Hp}{n:Nat}{v:V}{d:Dat}(f:okd n d=true)(h:dW K g H v d):Dp K H v d:=by
 cases d with
 |list ds=>
  obtain⟨a,us,rfl,h2,h3⟩:=h
  cases n with
  |zero=>rw[okd]at f;cases f
  |succ n=>
   rw[okd]at f
   exact .lst h2 (h3.dp f)
 |_=>exact Rep.dp f h
theorem Bc{n:Nat}{d:Dat}(h:okd n d=true)(hn:n<=64):SeqAt.shaped d=true:=by
 obtain⟨h1,h2⟩:=TQ n d h
 unfold SeqAt.shaped
 rw[h1,Bool.true_and]
 exact decide_eq_true (aq7 h2 hn)
def eqB:Dat->Dat->Out Bool
 |.int i,.int j=>.ok (i==j)
 |.str x,.str y=>.ok (x==y)
 |.bool x,.bool y=>.ok (x==y)
 |.none,.none=>.ok true
 |d,e=>Out.when (okd 12 d&&okd 12 e) (.ok (PyData.eqv d e))
def bZ(d e:Dat):Out Dat:=(eqB d e).bind fun b=>.ok (.bool b)
def Cm(d e:Dat):Out Dat:=(eqB d e).bind fun b=>.ok (.bool (!b))
def akH(K:aqE):R2:=fun x y H Q=>rEq x y H Q∨rEqD K x y H Q
def aj0(K:aqE):R2:=fun x y H Q=>rNe x y H Q∨rNeD K x y H Q
theorem ah6{X:Cx}(hu:X.A.units+64 < cLine):OpR X (compareOp .Eq) (akH X.K):=fun pins s σ H x y v u Q I rx ry h=>h.elim (fun h=>op_eq pins s σ H x y v u Q I rx ry h) (fun h=>op_eqD hu pins s σ H x y v u Q I rx ry h)
theorem ajY{X:Cx}(hu:X.A.units+64 < cLine):OpR X (compareOp .NotEq) (aj0 X.K):=fun pins s σ H x y v u Q I rx ry h=>h.elim (fun h=>op_ne pins s σ H x y v u Q I rx ry h) (fun h=>op_neD hu pins s σ H x y v u Q I rx ry h)
section
variable{K:aqE}{aj:aO}{W:WX}{g:Gh}{H:Hp}
theorem adg{x y:V}{d e:Dat}{P:Bool->Prop}{E:dJ->Prop}(rx:dW K g H x d)(ry:dW K g H y e)(h:(eqB d e).sat P E):(scal x y=true/\P (decide (x=y)))∨(∃d e,Dp K H x d/\Dp K H y e/\SeqAt.shaped d=true/\SeqAt.shaped e=true/\P (PyData.eqv d e)):=by
 unfold eqB at h
 split at h
 ·cases cG rx;cases cG ry
  rw[dec_int]
  exact .inl ⟨rfl,h⟩
 ·cases jL rx;cases jL ry
  rw[dec_str]
  exact .inl ⟨rfl,h⟩
 ·cases CK rx;cases CK ry
  rw[dec_bl]
  exact .inl ⟨rfl,h⟩
 ·cases Fg rx;cases Fg ry
  exact .inl ⟨rfl,h⟩
 ·obtain⟨hz,h⟩:=h.pU
  rw[aqF]at hz
  exact .inr ⟨_,_,rx.dp hz.1,ry.dp hz.2,Bc hz.1 (by decide),Bc hz.2 (by decide),h⟩
theorem alq:pQ aj K W bZ (akH K):=fun σ g H x y d e Q k rx ry h=>by
 rcases adg rx ry h.bnd with⟨h1,h2⟩|⟨d,e,h1,h2,h3,h4,h5⟩
 ·exact .inl ⟨h1,h2 _ H (Ex.refl H) (.bl _)⟩
 ·exact .inr ⟨d,e,h1,h2,h3,h4,h5 _ H (Ex.refl H) (.bl _)⟩
theorem alH:pQ aj K W Cm (aj0 K):=fun σ g H x y d e Q k rx ry h=>by
 rcases adg rx ry h.bnd with⟨h1,h2⟩|⟨d,e,h1,h2,h3,h4,h5⟩
 ·exact .inl ⟨h1,h2 _ H (Ex.refl H) (.bl _)⟩
 ·exact .inr ⟨d,e,h1,h2,h3,h4,h5 _ H (Ex.refl H) (.bl _)⟩
end
def Nf:Dat->Dat->Out Dat
 |.int i,.int j=>.ok (.bool (decide (i < j)))
 |.tuple ds,.tuple es=>Out.when (okd 12 (.tuple ds)&&okd 12 (.tuple es)&&PySem.W.alike (.tuple ds) (.tuple es)) (.ok (.bool (PySem.W.dataLt (.tuple ds) (.tuple es))))
 |_,_=>.bad
def rP:Dat->Dat->Out Dat
 |.int i,.int j=>.ok (.bool (decide (i<=j)))
 |_,_=>.bad
def YJ:Dat->Dat->Out Dat
 |.int i,.int j=>.ok (.bool (decide (j < i)))
 |_,_=>.bad
def geD:Dat->Dat->Out Dat
 |.int i,.int j=>.ok (.bool (decide (j<=i)))
 |_,_=>.bad
def aiO(K:aqE):R2:=fun x y H Q=>rI0 (fun i j=>.bl (decide (i < j))) x y H Q∨Ear.Pj K x y H Q
theorem ajO{X:Cx}(hu:X.A.units+65 < cLine):OpR X (compareOp .Lt) (aiO X.K):=fun pins s σ H x y v u Q I rx ry h=>h.elim (fun h=>op_lt pins s σ H x y v u Q I rx ry h) (fun h=>Ear.aeX hu pins s σ H x y v u Q I rx ry h)
section
variable{K:aqE}{aj:aO}{W:WX}{g:Gh}{H:Hp}
theorem alg:pQ aj K W Nf (aiO K):=fun σ g H x y d e Q k rx ry h=>by
 unfold Nf at h
 split at h
 ·exact .inl ⟨_,_,cG rx,cG ry,h _ H (Ex.refl H) (.bl _)⟩
 ·obtain⟨hz,h⟩:=h.pU
  simp only[aqF]at hz
  refine .inr ?_
  unfold Ear.Pj
  exact⟨_,_,rx.dp hz.1.1,ry.dp hz.1.2,hz.2,(fun z=>nomatch z),aq7 (TQ _ _ hz.1.1).2 (by decide),h _ H (Ex.refl H) (.bl _)⟩
 ·exact False.elim h
theorem aln:pQ aj K W rP (rI0 fun i j=>.bl (decide (i<=j))):=fun σ g H x y d e Q k rx ry h=>by
 unfold rP at h
 split at h
 ·exact⟨_,_,cG rx,cG ry,h _ H (Ex.refl H) (.bl _)⟩
 ·exact False.elim h
theorem akP:pQ aj K W YJ (rI0 fun i j=>.bl (decide (j < i))):=fun σ g H x y d e Q k rx ry h=>by
 unfold YJ at h
 split at h
 ·exact⟨_,_,cG rx,cG ry,h _ H (Ex.refl H) (.bl _)⟩
 ·exact False.elim h
theorem alx:pQ aj K W geD (rI0 fun i j=>.bl (decide (j<=i))):=fun σ g H x y d e Q k rx ry h=>by
 unfold geD at h
 split at h
 ·exact⟨_,_,cG rx,cG ry,h _ H (Ex.refl H) (.bl _)⟩
 ·exact False.elim h
end
def oO(c:Dat):Dat->Bool
 |.none=>match c with
  |.none=>true
  |_=>false
 |.bool b=>match c with
  |.bool b'=>b==b'
  |_=>false
 |_=>false
def scD:Dat->Option V
 |.none=>some .non
 |.bool b=>some (.bl b)
 |_=>none
theorem aaF{K:aqE}{g:Gh}{H:Hp}{x:V}{d c:Dat}{v:V}(h:dW K g H x d)(hc:scD c=some v):decide (x=v)=oO c d:=by
 cases c with
 |none=>
  cases hc
  cases d with
  |none=>cases Fg h;rfl
  |bool b=>cases CK h;rfl
  |int b=>cases cG h;rfl
  |str b=>cases jL h;rfl
  |list b=>obtain⟨a,us,rfl,_⟩:=iY h;rfl
  |tuple b=>obtain⟨a,us,rfl,_⟩:=lF h;rfl
  |dict b=>cases h;rfl
 |bool c=>
  cases hc
  cases d with
  |none=>cases Fg h;rfl
  |bool b=>cases CK h;exact dec_bl
  |int b=>cases cG h;rfl
  |str b=>cases jL h;rfl
  |list b=>obtain⟨a,us,rfl,_⟩:=iY h;rfl
  |tuple b=>obtain⟨a,us,rfl,_⟩:=lF h;rfl
  |dict b=>cases h;rfl
 |_=>cases hc
def X6(neg:Bool)(v:V):R2:=fun x y H Q=>y=v/\Q (.bl (neg ^^ decide (x=v))) H
theorem acC{x v:V}{u w:Value}(hv:v=.non∨∃b,v=.bl b)(rx:RelV x u)(rv:RelV v w):(u==w)=decide (x=v):=by
 rcases hv with rfl|⟨b,rfl⟩
 ·cases rv
  exact rx.none_iff
 ·cases rv
  rw[arN,beq_iff_eq,decide_eq_true_eq]
  constructor
  ·rintro rfl
   cases x with
   |bl c=>cases rx;rfl
   |non=>cases rx
   |ref _=>cases rx
   |ty _=>cases rx
   |_=>obtain⟨t,z⟩:=rx;cases z
  ·rintro rfl
   exact rx
theorem U9{x v:V}{u w:Value}(hv:v=.non∨∃b,v=.bl b)(rx:RelV x u)(rv:RelV v w):plainIs u w=true:=by
 rcases hv with rfl | ⟨b,rfl⟩ <;> (cases rv;cases x <;> first | (cases rx;rfl) | (obtain⟨t,rfl⟩:=rx;rfl))
theorem ajc{X:Cx}{v:V}(hv:v=.non∨∃b,v=.bl b):OpR X (compareOp .Is) (X6 false v):=by
 intro pins s σ H x y u w Q I rx ry h
 obtain⟨rfl,q⟩:=h
 refine wpAny_is_plain (U9 hv rx ry) ?_
 rw[acC hv rx ry]
 rw[Bool.false_xor]at q
 exact⟨.bl _,H,I,rfl,q⟩
theorem acr{X:Cx}{v:V}(hv:v=.non∨∃b,v=.bl b):OpR X (compareOp .IsNot) (X6 true v):=by
 intro pins s σ H x y u w Q I rx ry h
 obtain⟨rfl,q⟩:=h
 refine wpAny_isNot_plain (U9 hv rx ry) ?_
 rw[acC hv rx ry]
 rw[Bool.true_xor]at q
 exact⟨.bl _,H,I,rfl,q⟩
def xP(neg:Bool)(c:Dat)(a:QF):QF:=fun M ρ=>(a M ρ).bind fun d=>.ok (.bool (neg ^^ oO c d))
section
variable{X:Cx}{aj:aO}{W:WX}{a b c:Expr}{fa fb fc:QF}{pos:Pos}
theorem ak0{op:CmpOp}{neg:Bool}{d:Dat}{v:V}(hc:scD d=some v)(hr:OpR X (compareOp op) (X6 neg v))(ha:QW aj X W a fa)(hb:PE X b (tC v))(hm:behindInMarks op b=false):QE aj X W (.Compare a [op] [b] pos) (xP neg d fa):=
 PE.weak (pe_cmpR hr ha hb hm) fun σ H Q ⟨g,ρ,M,I,h⟩=>by
  refine tW.go I h.bnd fun e x H1 h1 e1 r1=>?_
  refine⟨rfl,?_⟩
  rw[aaF r1 hc]
  exact h1 _ H1 e1 (.bl _)
end
def Rv:Dat->Bool
 |.none=>true
 |.bool _=>true
 |.int _=>true
 |.str _=>true
 |_=>false
def inB:Dat->Dat->Out Bool
 |d,.list ds=>Out.when (okd 12 d&&mY 12 ds) (.ok (ds.any fun z=>PyData.eqv z d))
 |d,.tuple ds=>Out.when (Rv d&&ds.all Rv) (.ok (ds.any fun z=>PyData.eqv z d))
 |.str x,.str z=>match x.cps.toList with
  |[c]=>.ok (decide (c∈z.cps.toList))
  |_=>.bad
 |_,_=>.bad
def inD(neg:Bool)(d e:Dat):Out Dat:=(inB d e).bind fun b=>.ok (.bool (neg ^^ b))
section
variable{K:aqE}{g:Gh}{H:Hp}
theorem Xk{v:V}{d:Dat}(f:Rv d=true)(h:Rep K g H v d):flatV v=true:=by
 cases h with
 |tup _ _=>cases f
 |lst _ _=>cases f
 |obj _=>cases f
 |_=>rfl
theorem VJ:∀{vs:List V} {ds:List Dat},ds.all Rv=true->aH K g H vs ds->vs.all flatV=true
 |_,_,_,.nil=>rfl
 |_,_,f,.cons h t=>by
  rw[arb,aqF]at f
  rw[arb,Xk f.1 h,VJ f.2 t]
  rfl
theorem ahf{v w:V}{d e:Dat}(f1:Rv d=true)(f2:Rv e=true)(h1:Rep K g H v d)(h2:Rep K g H w e):eqV v w=PyData.eqv d e:=by
 cases h1 with
 |tup _ _=>cases f1
 |lst _ _=>cases f1
 |obj _=>cases f1
 |non=>cases h2 with
  |tup _ _=>cases f2
  |lst _ _=>cases f2
  |obj _=>cases f2
  |_=>simp[eqV,PyData.eqv]
 |bl b=>cases h2 with
  |tup _ _=>cases f2
  |lst _ _=>cases f2
  |obj _=>cases f2
  |_=>simp[eqV,PyData.eqv]
 |int b=>cases h2 with
  |tup _ _=>cases f2
  |lst _ _=>cases f2
  |obj _=>cases f2
  |_=>simp[eqV,PyData.eqv]
 |str b=>cases h2 with
  |tup _ _=>cases f2
  |lst _ _=>cases f2
  |obj _=>cases f2
  |_=>simp[eqV,PyData.eqv]
theorem abo{w:V}{e:Dat}(f2:Rv e=true)(h2:Rep K g H w e):∀{vs:List V} {ds:List Dat},ds.all Rv=true->aH K g H vs ds->inV w vs=ds.any fun z=>PyData.eqv z e
 |_,_,_,.nil=>rfl
 |v::vs,d::ds,f,.cons h t=>by
  rw[arb,aqF]at f
  have ih:=abo f2 h2 f.2 t
  unfold inV at ih ⊢
  rw[arD,arD,ih,ahf f.1 f2 h h2]
theorem ahd{v:V}{d:Dat}(f:Rv d=true)(h:dW K g H v d):Rep K g H v d:=by
 cases d with
 |list _=>cases f
 |_=>exact h
end
def Zi(K:aqE)(neg:Bool):R2:=fun x y H Q=>(∃d ds,Dp K H x d/\Dp K H y (.list ds)/\SeqAt.shaped d=true/\SeqAt.shaped (.list ds)=true/\Q (.bl (neg ^^ (ds.any fun z=>PyData.eqv z d))) H)∨
 (∃p xs,y=.ref p/\(SqL K H p xs∨SqT K H p xs)/\flatV x=true/\xs.all flatV=true/\Q (.bl (neg ^^ inV x xs)) H)∨∃(c:Nat) (z:Str),x=.str ⟨#[c]⟩/\y=.str z/\Q (.bl (neg ^^ decide (c∈z.cps.toList))) H
theorem akv{X:Cx}(hu:X.A.units+65 < cLine):OpR X (compareOp .In) (Zi X.K false):=fun pins s σ H x y v u Q I rx ry h=>by
 unfold Zi at h
 simp only[Bool.false_xor]at h
 rcases h with⟨d,ds,h⟩|⟨p,xs,h⟩|h
 ·exact op_inD hu pins s σ H x y v u Q I rx ry ⟨d,ds,h⟩
 ·exact op_in_seq pins s σ H x y v u Q I rx ry ⟨p,xs,h⟩
 ·exact op_in_sign pins s σ H x y v u Q I rx ry h
theorem ac4{X:Cx}(hu:X.A.units+65 < cLine):OpR X (compareOp .NotIn) (Zi X.K true):=fun pins s σ H x y v u Q I rx ry h=>by
 unfold Zi at h
 simp only[Bool.true_xor]at h
 rcases h with⟨d,ds,h⟩|⟨p,xs,h⟩|h
 ·exact op_notInD hu pins s σ H x y v u Q I rx ry ⟨d,ds,h⟩
 ·exact op_notIn_seq pins s σ H x y v u Q I rx ry ⟨p,xs,h⟩
 ·exact op_notIn_sign pins s σ H x y v u Q I rx ry h
theorem af3{K:aqE}{aj:aO}{W:WX}{neg:Bool}:pQ aj K W (inD neg) (Zi K neg):=fun σ g H x y d e Q k rx ry h=>by
 replace h:=Out.sat.bnd h
 unfold inB at h
 split at h
 ·next ds=>
  obtain⟨hz,h⟩:=h.pU
  rw[aqF]at hz
  have e2:okd 13 (.list ds)=true:=by rw[okd];exact hz.2
  exact .inl ⟨_,ds,rx.dp hz.1,ry.dp e2,Bc hz.1 (by decide),Bc e2 (by decide),h _ H (Ex.refl H) (.bl _)⟩
 ·next ds=>
  obtain⟨hz,h⟩:=h.pU
  rw[aqF]at hz
  obtain⟨p,us,rfl,h1,h2⟩:=lF ry
  have rx':=ahd hz.1 rx
  refine .inr (.inl ⟨p,us,rfl,.inr h1,Xk hz.1 rx',VJ hz.2 h2,?_⟩)
  rw[abo hz.1 rx' hz.2 h2]
  exact h _ H (Ex.refl H) (.bl _)
 ·next xs z=>
  split at h
  ·next c e=>
   refine .inr (.inr ⟨c,z,?_,jL ry,h _ H (Ex.refl H) (.bl _)⟩)
   rw[jL rx]
   congr 1
   have:xs.cps=#[c]:=by
    apply Array.toList_inj.mp
    rw[e]
   cases xs
   simp only at this
   rw[this]
  ·exact False.elim h
 ·exact False.elim h
def R3:Dat->Out Dat
 |.int i=>.ok (.int (-i))
 |_=>.bad
def Io:Dat->Out Bool
 |.none=>.ok false
 |.bool b=>.ok b
 |.int i=>.ok (i != 0)
 |.str x=>Out.when (decide (x.length<=100000)) (.ok (!x.cps.toList.isEmpty))
 |.list ds=>.ok (!ds.isEmpty)
 |.tuple ds=>.ok (!ds.isEmpty)
 |_=>.bad
def jd(a:QF):QT:=fun M ρ=>(a M ρ).bind Io
def Aq:Dat->Out Bool
 |.bool b=>.ok b
 |_=>.bad
def bx(a:QF):QT:=fun M ρ=>(a M ρ).bind Aq
def jJ(a:QT):QT:=fun M ρ=>(a M ρ).bind fun b=>.ok (!b)
def kY(a b:QT):QT:=fun M ρ=>(a M ρ).bind fun x=>if x=true then b M ρ else .ok false
def JC(a b:QT):QT:=fun M ρ=>(a M ρ).bind fun x=>if x=true then .ok true else b M ρ
def VL(a:QT):QF:=fun M ρ=>(a M ρ).bind fun b=>.ok (.bool b)
def Qu(t:QT)(a b:QF):QF:=fun M ρ=>(t M ρ).bind fun x=>if x=true then a M ρ else b M ρ
theorem RG{K:aqE}{g:Gh}{H:Hp}{us:List V}{ds:List Dat}(h:aH K g H us ds):(!ds.isEmpty)=!us.isEmpty:=by cases h <;> rfl
section
variable{X:Cx}{aj:aO}{W:WX}{a b c:Expr}{fa fb fc:QF}{ta tb:QT}{pos:Pos}
theorem aiL(ha:QW aj X W a fa):QE aj X W (.UnaryOp .USub a pos) (fH R3 fa):=
 PE.weak (pe_un un_neg ha) fun σ H Q ⟨g,ρ,M,I,h⟩=>by
  refine tW.go I h.bnd fun d v H1 h1 e1 r1=>?_
  unfold R3 at h1
  split at h1
  ·exact⟨_,cG r1,h1 _ H1 e1 (.int _)⟩
  ·exact False.elim h1
theorem adE{g:Gh}{H:Hp}{v:V}{d:Dat}{P:Bool->Prop}{E:dJ->Prop}(r:dW X.K g H v d)(h:(Io d).sat P E):∃k,TruV X.K v H k/\P k:=by
 unfold Io at h
 split at h
 ·cases Fg r;exact⟨_,rfl,h⟩
 ·cases CK r;exact⟨_,rfl,h⟩
 ·cases cG r;exact⟨_,rfl,h⟩
 ·next x=>
  obtain⟨hz,h⟩:=h.pU
  cases jL r
  refine⟨_,⟨sz_of (of_decide_eq_true hz),?_⟩,h⟩
  have e:x.length=x.cps.toList.length:=by
   rw[ari]
   rfl
  rw[e]
  cases x.cps.toList with
  |nil=>rfl
  |cons y ys=>
   refine Eq.symm (bne_iff_ne.mpr ?_)
   simp
   omega
 ·obtain⟨p,us,rfl,h1,h2⟩:=iY r
  rw[RG h2]at h
  exact⟨_,.inl ⟨us,h1,rfl⟩,h⟩
 ·obtain⟨p,us,rfl,h1,h2⟩:=lF r
  rw[RG h2]at h
  exact⟨_,.inr (.inl ⟨us,h1,rfl⟩),h⟩
 ·exact False.elim h
theorem ajN(ha:QW aj X W a fa)(he:∀whole,isTrue a X.env whole=(do let v ←whole;standAt a.pos;holding [v] (truthy v))):rM aj X W a (jd fa):=
 PT.weak (pt_truth ha he) fun σ H Q ⟨g,ρ,M,I,h⟩=>by
  refine tW.go I h.bnd fun d v H1 h1 e1 r1=>?_
  obtain⟨k,h2,h3⟩:=adE r1 h1
  exact⟨k,h2,h3 H1 e1⟩
theorem Dc{g:Gh}{H:Hp}{v:V}{d:Dat}{P:Bool->Prop}{E:dJ->Prop}(r:dW X.K g H v d)(h:(Aq d).sat P E):∃k,v=.bl k/\P k:=by
 unfold Aq at h
 split at h
 ·cases CK r;exact⟨_,rfl,h⟩
 ·exact False.elim h
theorem ai2{op:CmpOp}{r:R2}{o:Dat->Dat->Out Dat}(hr:OpR X (compareOp op) r)(ho:pQ aj X.K W o r)(ha:QW aj X W a fa)(hb:QW aj X W b fb)(hm:behindInMarks op b=false):rM aj X W (.Compare a [op] [b] pos) (bx (aA o fa fb)):=
 PT.weak (pt_cmpR hr ha hb hm) fun σ H Q ⟨g,ρ,M,I,h⟩=>by
  refine Qc ho σ H _ ⟨g,ρ,M,I,h.bnd.mono (fun d h1 v H' e' r'=>?_) fun _ z=>z⟩
  obtain⟨k,h2,h3⟩:=Dc r'.weak h1
  exact⟨k,h2,h3 H' e'⟩
theorem alX{op:CmpOp}{neg:Bool}{d:Dat}{v:V}(hc:scD d=some v)(hr:OpR X (compareOp op) (X6 neg v))(ha:QW aj X W a fa)(hb:PE X b (tC v))(hm:behindInMarks op b=false):rM aj X W (.Compare a [op] [b] pos) (bx (xP neg d fa)):=
 PT.weak (pt_cmpR hr ha hb hm) fun σ H Q ⟨g,ρ,M,I,h⟩=>by
  refine tW.go I h.bnd.bnd fun e x H1 h1 e1 r1=>?_
  refine⟨rfl,_,rfl,?_⟩
  rw[aaF r1 hc]
  exact h1 H1 e1
theorem akJ(ha:rM aj X W a ta):rM aj X W (.UnaryOp .Not a pos) (jJ ta):=
 PT.weak (pt_not ha) fun σ H Q ⟨g,ρ,M,I,h⟩=>j9.go I h.bnd fun b H1 h1 e1=>h1 H1 e1
def QWt(aj:aO)(X:Cx)(W:WX)(e:Expr)(f:QT):Prop:=PW X e (j9 X.K aj W f)
theorem PW.weak{X:Cx}{e:Expr}{t t':TT}(h:PW X e t)(k:∀σ H Q,t' σ H Q->t σ H Q):PW X e t':=⟨fun wh pins s σ H Q I q=>h.run wh pins s σ H Q I (k σ H Q q)⟩
theorem akE{rest:List Expr}(ha:rM aj X W a ta)(hb:QWt aj X W (.BoolOp .And (b::rest) pos) tb):QWt aj X W (.BoolOp .And (a::b::rest) pos) (kY ta tb):=
 PW.weak (pw_and ha hb) fun σ H Q ⟨g,ρ,M,I,h⟩=>by
  refine j9.go I h.bnd fun x H1 h1 e1=>?_
  cases x with
  |true=>exact⟨g,ρ,M,I.ex e1,h1.mono (fun b k H' e'=>k H' (e1.trans e')) fun _ z=>z.ex e1⟩
  |false=>exact h1 H1 e1
theorem alG{rest:List Expr}(ha:rM aj X W a ta)(hb:QWt aj X W (.BoolOp .Or (b::rest) pos) tb):QWt aj X W (.BoolOp .Or (a::b::rest) pos) (JC ta tb):=
 PW.weak (pw_or ha hb) fun σ H Q ⟨g,ρ,M,I,h⟩=>by
  refine j9.go I h.bnd fun x H1 h1 e1=>?_
  cases x with
  |true=>exact h1 H1 e1
  |false=>exact⟨g,ρ,M,I.ex e1,h1.mono (fun b k H' e'=>k H' (e1.trans e')) fun _ z=>z.ex e1⟩
def Pk(a:QF):QF:=VL (jJ (bx a))
def wB(a b:QF):QF:=fun M ρ=>(a M ρ).bind fun d=>(Aq d).bind fun x=>if x=true then b M ρ else .ok (.bool false)
def afH(a b:QF):QF:=fun M ρ=>(a M ρ).bind fun d=>(Aq d).bind fun x=>if x=true then .ok (.bool true) else b M ρ
theorem agQ(ha:QW aj X W a fa):QE aj X W (.UnaryOp .Not a pos) (Pk fa):=
 PE.weak (pe_not ha) fun σ H Q ⟨g,ρ,M,I,h⟩=>by
  refine tW.go I h.bnd.bnd.bnd fun d v H1 h1 e1 r1=>?_
  obtain⟨k,h2,h3⟩:=Dc r1 h1
  exact⟨k,h2,h3 _ H1 e1 (.bl _)⟩
theorem agw{rest:List Expr}(ha:QE aj X W a fa)(hb:QE aj X W (.BoolOp .And (b::rest) pos) fb):QE aj X W (.BoolOp .And (a::b::rest) pos) (wB fa fb):=
 PE.weak (pe_and ha hb) fun σ H Q ⟨g,ρ,M,I,h⟩=>by
  refine tQ.go I h.bnd fun d v H1 h1 e1 r1=>?_
  obtain⟨k,h2,h3⟩:=Dc r1.weak h1.bnd
  refine⟨k,h2,?_⟩
  cases k with
  |true=>exact⟨g,ρ,M,I.ex e1,h3.mono (fun b k v' H' e' r'=>k v' H' (e1.trans e') r') fun _ z=>z.ex e1⟩
  |false=>exact h3 _ H1 e1 (.bl false)
theorem ajI{rest:List Expr}(ha:QE aj X W a fa)(hb:QE aj X W (.BoolOp .Or (b::rest) pos) fb):QE aj X W (.BoolOp .Or (a::b::rest) pos) (afH fa fb):=
 PE.weak (pe_or ha hb) fun σ H Q ⟨g,ρ,M,I,h⟩=>by
  refine tQ.go I h.bnd fun d v H1 h1 e1 r1=>?_
  obtain⟨k,h2,h3⟩:=Dc r1.weak h1.bnd
  refine⟨k,h2,?_⟩
  cases k with
  |false=>exact⟨g,ρ,M,I.ex e1,h3.mono (fun b k v' H' e' r'=>k v' H' (e1.trans e') r') fun _ z=>z.ex e1⟩
  |true=>exact h3 _ H1 e1 (.bl true)
theorem afq(hc:rM aj X W c ta)(ha:QE aj X W a fa)(hb:QE aj X W b fb):QE aj X W (.IfExp c a b pos) (Qu ta fa fb):=
 PE.weak (pe_ifExp hc ha hb) fun σ H Q ⟨g,ρ,M,I,h⟩=>by
  refine j9.go I h.bnd fun x H1 h1 e1=>?_
  cases x with
  |true=>exact⟨g,ρ,M,I.ex e1,h1.mono (fun b k v' H' e' r'=>k v' H' (e1.trans e') r') fun _ z=>z.ex e1⟩
  |false=>exact⟨g,ρ,M,I.ex e1,h1.mono (fun b k v' H' e' r'=>k v' H' (e1.trans e') r') fun _ z=>z.ex e1⟩
def lE(o o':Dat->Dat->Out Dat)(a b c:QF):QT:=fun M ρ=>(a M ρ).bind fun x=>(b M ρ).bind fun y=>(o x y).bind fun z=>(Aq z).bind fun k=>if k=true then(c M ρ).bind fun w=>(o' y w).bind Aq else .ok false
theorem Y8{r r':R2}{o o':Dat->Dat->Out Dat}(ho:pQ aj X.K W o r)(ho':pQ aj X.K W o' r'){σ:L2.St}{H:Hp}{Q:VK}{P:Bool->Hp->Prop}(hP:∀k H',P k H'->Q (.bl k) H')(h:j9 X.K aj W (lE o o' fa fb fc) σ H P):tChain r r' (tW X.K aj W fa) (tW X.K aj W fb) (tW X.K aj W fc) σ H Q:=by
 obtain⟨g,ρ,M,I,h⟩:=h
 refine tW.go I h.bnd fun d v H1 h1 e1 r1=>?_
 have I1:=I.ex e1
 refine tW.go I1 (h1.bnd.mono (fun _ z=>z) fun _ z=>z.ex e1) fun d2 v2 H2 h2 e2 r2=>?_
 have I2:=I1.ex e2
 have r1':=r1.ex e2 I1.kd
 refine ho σ g H2 v v2 d d2 _ I2.kd r1' r2 (h2.bnd.mono (fun z hz u H3 e3 r3=>?_) fun _ z=>(z.ex e1).ex e2)
 obtain⟨k,h4,h5⟩:=Dc r3.weak hz.bnd
 refine⟨k,h4,?_⟩
 have I3:=I2.ex e3
 have e13:=(e1.trans e2).trans e3
 cases k with
 |false=>exact hP _ _ (h5 H3 e13)
 |true=>
  refine tW.go I3 (h5.bnd.mono (fun _ z=>z) fun _ z=>z.ex e13) fun d4 v4 H4 h6 e4 r4=>?_
  refine ho' σ g H4 v2 v4 d2 d4 _ (I3.ex e4).kd ((r2.ex e3 I2.kd).ex e4 I3.kd) r4 (h6.bnd.mono (fun z hz u H5 e5 r5=>?_) fun _ z=>(z.ex e13).ex e4)
  obtain⟨k,rfl,h8⟩:=Dc r5.weak hz
  exact hP _ _ (h8 H5 ((e13.trans e4).trans e5))
theorem ae5{op op':CmpOp}{r r':R2}{o o':Dat->Dat->Out Dat}(hr:OpR X (compareOp op) r)(hr':OpR X (compareOp op') r')(ho:pQ aj X.K W o r)(ho':pQ aj X.K W o' r')(ha:QW aj X W a fa)(hb:QW aj X W b fb)(hc:QW aj X W c fc)(hm:lastMarks [op,op'] [b,c]=false) :
  rM aj X W (.Compare a [op,op'] [b,c] pos) (lE o o' fa fb fc):=
 PT.weak (pt_chain hr hr' ha hb hc hm) fun σ H Q h=>Y8 ho ho' (fun k H' z=>⟨k,rfl,z⟩) h
theorem aeZ{op op':CmpOp}{r r':R2}{o o':Dat->Dat->Out Dat}(hr:OpR X (compareOp op) r)(hr':OpR X (compareOp op') r')(ho:pQ aj X.K W o r)(ho':pQ aj X.K W o' r')(ha:QW aj X W a fa)(hb:QW aj X W b fb)(hc:QW aj X W c fc)(hm:lastMarks [op,op'] [b,c]=false) :
  QE aj X W (.Compare a [op,op'] [b,c] pos) (VL (lE o o' fa fb fc)):=
 PE.weak (pe_chain hr hr' ha hb hc hm) fun σ H Q ⟨g,ρ,M,I,h⟩=>Y8 (P:=fun b H1=>Q (.bl b) H1) ho ho' (fun k H' z=>z) ⟨g,ρ,M,I,h.bnd.mono (fun b h1 H' e'=>h1 _ H' e' (.bl b)) fun _ z=>z⟩
end
def aU:Dat->Dat->Out Dat
 |.list ds,.int i=>match atI ds i with
  |some d=>.ok d
  |none=>.bad
 |.tuple ds,.int i=>match atI ds i with
  |some d=>.ok d
  |none=>.bad
 |.str z,.int i=>Out.when (decide (z.length<=100000)) (match atI z.cps.toList i with
  |some c=>.ok (.str ⟨#[c]⟩)
  |none=>.bad)
 |_,_=>.bad
theorem aaX{K:aqE}{g:Gh}{H:Hp}{us:List V}{ds:List Dat}{i:Int}{d:Dat}(h:aH K g H us ds)(e:atI ds i=some d):∃v,atI us i=some v/\Rep K g H v d:=by
 unfold atI at e ⊢
 rw[h.length]
 cases hj:ixN ds.length i with
 |none=>rw[hj]at e;cases e
 |some j=>
  rw[hj]at e
  obtain⟨v,h1,h2⟩:=h.get (i:=j) e
  exact⟨v,h1,h2⟩
def ajW(K:aqE):R2:=fun x y H Q=>rIxL K x y H Q∨rIxT K x y H Q∨rIxS x y H Q
theorem amo{X:Cx}:IxR X (ajW X.K):=fun value slice pins s σ H x y v u Q I rx ry h hs=>by
 rcases h with h|h|h
 ·exact ix_list value slice pins s σ H x y v u Q I rx ry h hs
 ·exact ix_tup value slice pins s σ H x y v u Q I rx ry h hs
 ·exact ix_str value slice pins s σ H x y v u Q I rx ry h hs
theorem alT{K:aqE}{aj:aO}{W:WX}:pQ aj K W aU (ajW K):=fun σ g H x y d e Q k rx ry h=>by
 unfold aU at h
 split at h
 ·split at h
  ·next z hz=>
   obtain⟨p,us,rfl,h1,h2⟩:=iY rx
   obtain⟨v,h3,h4⟩:=aaX h2 hz
   exact .inl ⟨p,us,_,v,rfl,cG ry,h1,h3,h v H (Ex.refl H) h4⟩
  ·exact False.elim h
 ·split at h
  ·next z hz=>
   obtain⟨p,us,rfl,h1,h2⟩:=lF rx
   obtain⟨v,h3,h4⟩:=aaX h2 hz
   exact .inr (.inl ⟨p,us,_,v,rfl,cG ry,h1,h3,h v H (Ex.refl H) h4⟩)
  ·exact False.elim h
 ·obtain⟨hl,h⟩:=h.pU
  split at h
  ·next c hz=>exact .inr (.inr ⟨_,_,c,jL rx,cG ry,sz_of (of_decide_eq_true hl),hz,h _ H (Ex.refl H) (.str _)⟩)
  ·exact False.elim h
 ·exact False.elim h
def cutD{α:Type}(xs:List α)(lo hi:Option Int):List α:=(xs.drop (HT.sIx xs.length 0 lo)).take (HT.sIx xs.length xs.length hi - HT.sIx xs.length 0 lo)
abbrev QO:=Mo->Env->Out (Option Int)
def pq:QO:=fun _ _=>.ok none
def zU:Dat->Out Int
 |.int i=>.ok i
 |_=>.bad
def kE(a:QF):QO:=fun M ρ=>(a M ρ).bind fun d=>(zU d).bind fun i=>.ok (some i)
def YL(d:Dat)(lo hi:Option Int):Out Dat:=
 match d with
 |.list ds=>.ok (.list (cutD ds lo hi))
 |.tuple ds=>.ok (.tuple (cutD ds lo hi))
 |.str z=>Out.when (decide (z.length<=100000)) (.ok (.str (cutS z lo hi)))
 |_=>.bad
def Cg(a:QF)(lo hi:QO):QF:=fun M ρ=>(a M ρ).bind fun d=>(lo M ρ).bind fun l=>(hi M ρ).bind fun h=>YL d l h
def tQO(K:aqE)(aj:aO)(W:WX)(f:QO):TO:=fun σ H Q=>∃g ρ M,SInv K aj σ H g ρ M/\(f M ρ).sat (fun o=>∀H',Ex H H'->Q o H') (qG K aj W g H σ)
def QOe(aj:aO)(X:Cx)(W:WX)(e:Option Expr)(f:QO):Prop:=PO X e (tQO X.K aj W f)
def aj1(K:aqE):V->Option Int->Option Int->Hp->VK->Prop:=fun x lo hi H Q=>rSlL K x lo hi H Q∨rSlA K x lo hi H Q∨rSlS x lo hi H Q
theorem amh{X:Cx}:SlR X (aj1 X.K):=fun pins s σ H x v vl vu lo hi sl Q I rx hs pl pu h=>by
 rcases h with h|h|h
 ·exact sl_list pins s σ H x v vl vu lo hi sl Q I rx hs pl pu h
 ·exact sl_tupA pins s σ H x v vl vu lo hi sl Q I rx hs pl pu h
 ·exact sl_str pins s σ H x v vl vu lo hi sl Q I rx hs pl pu h
theorem alc{K:aqE}{g:Gh}{H:Hp}{x:V}{d:Dat}{lo hi:Option Int}{Q:VK}{E:dJ->Prop}(k:Kd g H)(rx:dW K g H x d)(h:(YL d lo hi).sat (fun z=>∀v H',Ex H H'->Rep K g H' v z->Q v H') E):aj1 K x lo hi H Q:=by
 unfold YL at h
 have hc:∀{us:List V} {ds:List Dat},aH K g H us ds->aH K g H (cutV us lo hi) (cutD ds lo hi):=fun {us ds} t=>by
  unfold cutV cutD
  rw[t.length]
  exact(t.drop _).take _
 split at h
 ·obtain⟨p,us,rfl,h1,h2⟩:=iY rx
  exact .inl ⟨p,us,rfl,h1,fun q nq=>h _ _ (Ex.new nq) (.lst (.inl ⟨.inl upd_same,k.fresh nq⟩) ((hc h2).ex (Ex.new nq) k))⟩
 ·next ds=>
  obtain⟨p,us,rfl,h1,h2⟩:=lF rx
  refine .inr (.inl ⟨p,us,rfl,h1,fun z=>?_,fun _ q nq=>h _ _ (Ex.new nq) (.tup (st_of upd_same) ((hc h2).ex (Ex.new nq) k))⟩)
  have e:cutD ds lo hi=ds:=by
   unfold cutD
   rw[←h2.length,z.1,z.2,h2.length]
   simp
  rw[e]at h
  exact h _ H (Ex.refl H) (.tup h1 h2)
 ·obtain⟨hz,h⟩:=h.pU
  exact .inr (.inr ⟨_,jL rx,sz_of (of_decide_eq_true hz),h _ H (Ex.refl H) (.str _)⟩)
 ·exact False.elim h
section
variable{X:Cx}{aj:aO}{W:WX}{a b:Expr}{fa fb:QF}{pos p2:Pos}
theorem akQ(ha:QW aj X W a fa)(hb:QW aj X W b fb)(hs:PlainIx b):QE aj X W (.Subscript a b pos) (aA aU fa fb):=
 PE.weak (pe_ix amo ha hb hs) fun σ H Q h=>Qc alT σ H Q h
theorem PO.weak{X:Cx}{e:Option Expr}{t t':TO}(h:PO X e t)(k:∀σ H Q,t' σ H Q->t σ H Q):PO X e t':=⟨fun pins s σ H Q I q=>h.run pins s σ H Q I (k σ H Q q)⟩
theorem aha:QOe aj X W none pq:=PO.weak po_none fun σ H Q ⟨g,ρ,M,I,h⟩=>h H (Ex.refl H)
theorem ag3(ha:QW aj X W a fa):QOe aj X W (some a) (kE fa):=PO.weak (po_some ha) fun σ H Q ⟨g,ρ,M,I,h⟩=>by
 refine tW.go I h.bnd fun d v H1 h1 e1 r1=>?_
 have h1:=h1.bnd
 unfold zU at h1
 split at h1
 ·exact⟨_,cG r1,h1 H1 e1⟩
 ·exact False.elim h1
theorem ak9{lo hi:Option Expr}{fl fh:QO}(ha:QW aj X W a fa)(hl:QOe aj X W lo fl)(hh:QOe aj X W hi fh):QE aj X W (.Subscript a (.Slice lo hi none p2) pos) (Cg fa fl fh):=
 PE.weak (pe_slice amh ha hl hh) fun σ H Q ⟨g,ρ,M,I,h⟩=>by
  refine tW.go I h.bnd fun d v H1 h1 e1 r1=>?_
  have I1:=I.ex e1
  refine⟨g,ρ,M,I1,h1.bnd.mono (fun l h2 H2 e2=>?_) fun _ z=>z.ex e1⟩
  have I2:=I1.ex e2
  refine⟨g,ρ,M,I2,h2.bnd.mono (fun u h3 H3 e3=>?_) fun _ z=>(z.ex e1).ex e2⟩
  exact alc (I2.ex e3).kd ((r1.ex e2 I1.kd).ex e3 I2.kd) (h3.mono (fun z hz v' H' e' r'=>hz v' H' (((e1.trans e2).trans e3).trans e') r') fun _ z=>z)
end
def Jf(aj:aO)(K:aqE)(W:WX)(o:Dat->Out Dat)(r:List V->Hp->VK->Prop):Prop:=∀(σ:L2.St) (g:Gh) (H:Hp) (x:V) (d:Dat) (Q:VK),Kd g H->dW K g H x d->
 (o d).sat (fun z=>∀v H',Ex H H'->Rep K g H' v z->Q v H') (qG K aj W g H σ)->r [x] H Q
def Fn2(aj:aO)(K:aqE)(W:WX)(o:Dat->Dat->Out Dat)(r:List V->Hp->VK->Prop):Prop:=∀(σ:L2.St) (g:Gh) (H:Hp) (x y:V) (d e:Dat) (Q:VK),Kd g H->dW K g H x d->dW K g H y e->
 (o d e).sat (fun z=>∀v H',Ex H H'->Rep K g H' v z->Q v H') (qG K aj W g H σ)->r [x,y] H Q
def BV(f:Value)(x:Str):Prop:=bootBuiltins x=some f/\x≠"__name__"/\(x==("__debug__" : Str))=false
def nst:Expr->Bool
 |.Starred _ _=>false
 |_=>true
section
variable{X:Cx}{aj:aO}{W:WX}{a b c:Expr}{fa fb fc:QF}{pos p:Pos}{x:Str}
theorem cI{env:PySem.Env}{a:Expr}(h:nst a=true)(es:List Expr):starEach (a::es) env=(false,eval a env)::starEach es env:=by
 cases a <;> first | rfl | cases h
theorem star_any{env:PySem.Env}{pos:Pos}:∀(es:List Expr),es.all nst=true->(backTo pos (starEach es env)).any (·.1)=false
 |[],_=>by with_unfolding_all rfl
 |a::es,h=>by
  rw[arb,aqF]at h
  rw[cI h.1]
  have ih:=star_any (env:=env) (pos:=pos) es h.2
  unfold backTo at ih ⊢
  rw[aqI,arD,ih]
  rfl
theorem agc{f:Value}{id:String}{r:List V->Hp->VK->Prop}{o:Dat->Out Dat}(hf:f=.builtin id∨f=.type id)(hc:CallR X f r)(ho:Jf aj X.K W o r)(hg:Gl X x)(hm:X.mg x=none)(hv:BV f x)(ha:QW aj X W a fa)(hs:nst a=true):QE aj X W (.Call (.Name x p) [a] [] pos) (fH o fa):=by
 have h1:=pa_cons ha pa_nil (cI hs [])
 have key:PE X (.Call (.Name x p) [a] [] pos) (tCB r (tCons (tW X.K aj W fa) tNil)):=by
  rcases hf with rfl|rfl
  ·exact pe_callB hc hg hm hv.1 h1 hv.2.1 hv.2.2 (cI hs []) (by with_unfolding_all rfl)
  ·exact pe_callTy hc hg hm hv.1 h1 hv.2.1 hv.2.2 (cI hs []) (by with_unfolding_all rfl)
 refine PE.weak key fun σ H Q ⟨g,ρ,M,I,h⟩=>?_
 refine tW.go I h.bnd fun d v H1 h1 e1 r1=>?_
 exact ho σ g H1 v d Q (I.kd.ex e1) r1 (h1.mono (fun z hz u H' e' r'=>hz u H' (e1.trans e') r') fun _ z=>z.ex e1)
theorem akZ{f:Value}{id:String}{r:List V->Hp->VK->Prop}{o:Dat->Dat->Out Dat}(hf:f=.builtin id∨f=.type id)(hc:CallR X f r)(ho:Fn2 aj X.K W o r)(hg:Gl X x)(hm:X.mg x=none)(hv:BV f x)(ha:QW aj X W a fa)(hb:QW aj X W b fb)(hs:nst a=true)(hs2:nst b=true):QE aj X W (.Call (.Name x p) [a,b] [] pos) (aA o fa fb):=by
 have h1:=pa_cons ha (pa_cons hb pa_nil (cI hs2 [])) (cI hs [b])
 have key:PE X (.Call (.Name x p) [a,b] [] pos) (tCB r (tCons (tW X.K aj W fa) (tCons (tW X.K aj W fb) tNil))):=by
  rcases hf with rfl|rfl
  ·exact pe_callB hc hg hm hv.1 h1 hv.2.1 hv.2.2 (cI hs [b]) (star_any [b] (by simp[hs2]))
  ·exact pe_callTy hc hg hm hv.1 h1 hv.2.1 hv.2.2 (cI hs [b]) (star_any [b] (by simp[hs2]))
 refine PE.weak key fun σ H Q ⟨g,ρ,M,I,h⟩=>?_
 refine tW.go I h.bnd fun d v H1 h1 e1 r1=>?_
 have I1:=I.ex e1
 refine tW.go I1 (h1.bnd.mono (fun _ z=>z) fun _ z=>z.ex e1) fun d2 v2 H2 h2 e2 r2=>?_
 exact ho σ g H2 v v2 d d2 Q (I1.ex e2).kd (r1.ex e2 I1.kd) r2 (h2.mono (fun z hz u H' e' r'=>hz u H' ((e1.trans e2).trans e') r') fun _ z=>(z.ex e1).ex e2)
end
def oN:Dat->Out Dat
 |.list ds=>.ok (.int ds.length)
 |.tuple ds=>.ok (.int ds.length)
 |.str x=>Out.when (decide (x.length<=100000)) (.ok (.int x.length))
 |_=>.bad
def Ss:Dat->Out Dat
 |.int i=>.ok (.int (if i < 0 then -i else i))
 |_=>.bad
def u5:Dat->Dat->Out Dat
 |.int i,.int j=>.ok (.int (if j > i then j else i))
 |_,_=>.bad
def Ij:Dat->Dat->Out Dat
 |.int i,.int j=>.ok (.int (if j < i then j else i))
 |_,_=>.bad
def intsOf:List Dat->Option (List Int)
 |[]=>some []
 |.int i::r=>(intsOf r).map (i::·)
 |_::_=>none
def ug:List Dat->Option (List Bool)
 |[]=>some []
 |.bool i::r=>(ug r).map (i::·)
 |_::_=>none
theorem Hj{K:aqE}{g:Gh}{H:Hp}:∀{us:List V} {ds:List Dat} {ns:List Int},aH K g H us ds->intsOf ds=some ns->us=ns.map V.int
 |_,_,ns,.nil,e=>by cases e;rfl
 |_,_,ns,.cons (d:=d) (ds:=ds) h t,e=>by
  cases d with
  |int i=>
   rw[intsOf]at e
   cases hr:intsOf ds with
   |none=>rw[hr]at e;cases e
   |some r=>
    rw[hr]at e
    cases e
    cases h
    rw[Hj t hr]
    rfl
  |_=>cases e
theorem Ld{K:aqE}{g:Gh}{H:Hp}:∀{us:List V} {ds:List Dat} {ns:List Bool},aH K g H us ds->ug ds=some ns->us=ns.map V.bl
 |_,_,ns,.nil,e=>by cases e;rfl
 |_,_,ns,.cons (d:=d) (ds:=ds) h t,e=>by
  cases d with
  |bool i=>
   rw[ug]at e
   cases hr:ug ds with
   |none=>rw[hr]at e;cases e
   |some r=>
    rw[hr]at e
    cases e
    cases h
    rw[Ld t hr]
    rfl
  |_=>cases e
@[simp]theorem Bg (ns:List Int):intsOf (ns.map PyData.int)=some ns:=by
 induction ns with
 |nil=>rfl
 |cons n ns ih=>rw[aqI,intsOf,ih];rfl
@[simp]theorem Dg (ns:List Bool):ug (ns.map PyData.bool)=some ns:=by
 induction ns with
 |nil=>rfl
 |cons n ns ih=>rw[aqI,ug,ih];rfl
def YZ:Dat->Out Dat
 |.list ds=>match intsOf ds with
  |some ns=>.ok (.int ns.sum)
  |none=>.bad
 |_=>.bad
def Ef:Int->List Int->Int
 |m,[]=>m
 |m,n::ns=>Ef (if n > m then n else m) ns
theorem VB:∀(ns:List Int) (m:Int),(Ef m ns∈m::ns)/\∀y∈m::ns,y<=Ef m ns
 |[],m=>⟨by simp[Ef],fun y h=>by simp at h;subst h;exact Int.le_refl _⟩
 |n::ns,m=>by
  obtain⟨h1,h2⟩:=VB ns (if n > m then n else m)
  have hm:m<=(if n > m then n else m):=by split <;> omega
  have hn:n<=(if n > m then n else m):=by split <;> omega
  have h3:=h2 _ aqK
  refine⟨?_,fun y hy=>?_⟩
  ·show Ef (if n > m then n else m) ns∈_
   rcases aqV.mp h1 with e|e
   ·rw[e]
    split
    ·exact aqJ _ aqK
    ·exact aqK
   ·exact aqJ _ (aqJ _ e)
  ·show y<=Ef (if n > m then n else m) ns
   rcases aqV.mp hy with e|hy
   ·omega
   ·rcases aqV.mp hy with e|hy
    ·omega
    ·exact h2 y (aqJ _ hy)
def maxD:Dat->Out Dat
 |.list ds=>match intsOf ds with
  |some (n::ns)=>.ok (.int (Ef n ns))
  |_=>.bad
 |_=>.bad
def O7:Dat->Out Dat
 |.list ds=>match ug ds with
  |some bs=>.ok (.bool (bs.all id))
  |none=>.bad
 |_=>.bad
def Oq:Dat->Out Dat
 |.list ds=>match ug ds with
  |some bs=>.ok (.bool (bs.any id))
  |none=>.bad
 |_=>.bad
def mF:Dat->Out Dat
 |.list ds=>.ok (.tuple ds)
 |.tuple ds=>.ok (.tuple ds)
 |_=>.bad
def Ma:Dat->Out Dat
 |.list ds=>.ok (.list ds)
 |.tuple ds=>.ok (.list ds)
 |_=>.bad
def intD:Dat->Out Dat
 |.int i=>.ok (.int i)
 |.bool k=>.ok (.int (if k then 1 else 0))
 |.str x=>Out.when (decide (x.length<=640)) (match PySem.intText? x with
  |some n=>.ok (.int n)
  |none=>.bad)
 |_=>.bad
def afZ(K:aqE):List V->Hp->VK->Prop:=fun xs H Q=>(∃p ys,xs=[.ref p]/\(SqL K H p ys∨SqT K H p ys)/\Q (.int ys.length) H)∨∃z,xs=[.str z]/\z.length<=sizeLine/\Q (.int z.length) H
theorem aiu{X:Cx}:CallR X (.builtin "len") (afZ X.K):=fun pins s σ H xs us Q I r h=>h.elim (fun h=>call_len_seq pins s σ H xs us Q I r h) fun h=>call_len_str pins s σ H xs us Q I r h
def agb:List V->Hp->VK->Prop:=fun xs H Q=>((∃i,xs=[.int i]/\Q (.int i) H)∨∃k,xs=[.bl k]/\Q (.int (if k then 1 else 0)) H)∨∃a n,xs=[.str a]/\PySem.intText? a=some n/\a.length<=640/\Q (.int n) H
theorem aiP{X:Cx}:CallR X (.type "int") agb:=fun pins s σ H xs us Q I r h=>h.elim (fun h=>call_int1 pins s σ H xs us Q I r h) fun h=>call_int_str pins s σ H xs us Q I r h
section
variable{K:aqE}{aj:aO}{W:WX}
theorem aic:Jf aj K W oN (afZ K):=fun σ g H x d Q k rx h=>by
 unfold oN at h
 split at h
 ·obtain⟨p,us,rfl,h1,h2⟩:=iY rx
  rw[←h2.length]at h
  exact .inl ⟨p,us,rfl,.inl h1,h _ H (Ex.refl H) (.int _)⟩
 ·obtain⟨p,us,rfl,h1,h2⟩:=lF rx
  rw[←h2.length]at h
  exact .inl ⟨p,us,rfl,.inr h1,h _ H (Ex.refl H) (.int _)⟩
 ·obtain⟨hz,h⟩:=h.pU
  cases jL rx
  exact .inr ⟨_,rfl,sz_of (of_decide_eq_true hz),h _ H (Ex.refl H) (.int _)⟩
 ·exact False.elim h
theorem aj8:Jf aj K W Ss (fun xs H Q=>∃i,xs=[.int i]/\Q (.int (if i < 0 then -i else i)) H):=fun σ g H x d Q k rx h=>by
 unfold Ss at h
 split at h
 ·cases cG rx
  exact⟨_,rfl,h _ H (Ex.refl H) (.int _)⟩
 ·exact False.elim h
theorem agD:Fn2 aj K W u5 (fun xs H Q=>∃i j,xs=[.int i,.int j]/\Q (.int (if j > i then j else i)) H):=fun σ g H x y d e Q k rx ry h=>by
 unfold u5 at h
 split at h
 ·cases cG rx;cases cG ry
  exact⟨_,_,rfl,h _ H (Ex.refl H) (.int _)⟩
 ·exact False.elim h
theorem agx:Fn2 aj K W Ij (fun xs H Q=>∃i j,xs=[.int i,.int j]/\Q (.int (if j < i then j else i)) H):=fun σ g H x y d e Q k rx ry h=>by
 unfold Ij at h
 split at h
 ·cases cG rx;cases cG ry
  exact⟨_,_,rfl,h _ H (Ex.refl H) (.int _)⟩
 ·exact False.elim h
theorem aiA:Jf aj K W YZ (rSum K):=fun σ g H x d Q k rx h=>by
 unfold YZ at h
 split at h
 ·split at h
  ·next ns e=>
   obtain⟨p,us,rfl,h1,h2⟩:=iY rx
   have:=Hj h2 e
   subst this
   exact⟨p,ns,rfl,h1,h _ H (Ex.refl H) (.int _)⟩
  ·exact False.elim h
 ·exact False.elim h
theorem akc:Jf aj K W maxD (rMax K):=fun σ g H x d Q k rx h=>by
 unfold maxD at h
 split at h
 ·split at h
  ·next n ns e=>
   obtain⟨p,us,rfl,h1,h2⟩:=iY rx
   have:=Hj h2 e
   subst this
   obtain⟨m1,m2⟩:=VB ns n
   refine⟨p,n::ns,rfl,h1,by simp,fun m hm hy=>?_⟩
   have e2:m=Ef n ns:=Int.le_antisymm (m2 m hm) (hy _ m1)
   rw[e2]
   exact h _ H (Ex.refl H) (.int _)
  ·exact False.elim h
 ·exact False.elim h
theorem ajA:Jf aj K W O7 (rAll K):=fun σ g H x d Q k rx h=>by
 unfold O7 at h
 split at h
 ·split at h
  ·next ns e=>
   obtain⟨p,us,rfl,h1,h2⟩:=iY rx
   have:=Ld h2 e
   subst this
   exact⟨p,ns,rfl,h1,h _ H (Ex.refl H) (.bl _)⟩
  ·exact False.elim h
 ·exact False.elim h
theorem ajj:Jf aj K W Oq (rAny K):=fun σ g H x d Q k rx h=>by
 unfold Oq at h
 split at h
 ·split at h
  ·next ns e=>
   obtain⟨p,us,rfl,h1,h2⟩:=iY rx
   have:=Ld h2 e
   subst this
   exact⟨p,ns,rfl,h1,h _ H (Ex.refl H) (.bl _)⟩
  ·exact False.elim h
 ·exact False.elim h
theorem ae0:Jf aj K W mF (fun xs H Q=>∃p ys,xs=[.ref p]/\((SqL K H p ys/\∀l,H l=none->Q (.ref l) (upd H l (.tup ys)))∨(SqT K H p ys/\Q (.ref p) H))):=fun σ g H x d Q k rx h=>by
 unfold mF at h
 split at h
 ·obtain⟨p,us,rfl,h1,h2⟩:=iY rx
  exact⟨p,us,rfl,.inl ⟨h1,fun l nl=>h _ _ (Ex.new nl) (.tup (st_of upd_same) (h2.ex (Ex.new nl) k))⟩⟩
 ·obtain⟨p,us,rfl,h1,h2⟩:=lF rx
  exact⟨p,us,rfl,.inr ⟨h1,h _ H (Ex.refl H) (.tup h1 h2)⟩⟩
 ·exact False.elim h
theorem agH:Jf aj K W Ma (fun xs H Q=>∃p ys,xs=[.ref p]/\(SqL K H p ys∨SqT K H p ys)/\∀l,H l=none->Q (.ref l) (upd H l (.lst ys))):=fun σ g H x d Q k rx h=>by
 unfold Ma at h
 split at h
 ·obtain⟨p,us,rfl,h1,h2⟩:=iY rx
  exact⟨p,us,rfl,.inl h1,fun l nl=>h _ _ (Ex.new nl) (.lst (.inl ⟨.inl upd_same,k.fresh nl⟩) (h2.ex (Ex.new nl) k))⟩
 ·obtain⟨p,us,rfl,h1,h2⟩:=lF rx
  exact⟨p,us,rfl,.inr h1,fun l nl=>h _ _ (Ex.new nl) (.lst (.inl ⟨.inl upd_same,k.fresh nl⟩) (h2.ex (Ex.new nl) k))⟩
 ·exact False.elim h
theorem aio:Jf aj K W intD agb:=fun σ g H x d Q k rx h=>by
 unfold intD at h
 split at h
 ·cases cG rx
  exact .inl (.inl ⟨_,rfl,h _ H (Ex.refl H) (.int _)⟩)
 ·cases CK rx
  exact .inl (.inr ⟨_,rfl,h _ H (Ex.refl H) (.int _)⟩)
 ·obtain⟨hz,h⟩:=h.pU
  split at h
  ·next n e=>
   cases jL rx
   exact .inr ⟨_,n,rfl,e,of_decide_eq_true hz,h _ H (Ex.refl H) (.int _)⟩
  ·exact False.elim h
 ·exact False.elim h
end
inductive M5 where
 |int|bool|str|tuple|list
def M5.name:M5->String
 |.int=>"int"
 |.bool=>"bool"
 |.str=>"str"
 |.tuple=>"tuple"
 |.list=>"list"
def Ai(t:M5):Dat->Option Bool
 |.none=>some false
 |.int _=>some (match t with
  |.int=>true
  |_=>false)
 |.bool _=>some (match t with
  |.int=>true
  |.bool=>true
  |_=>false)
 |.str _=>some (match t with
  |.str=>true
  |_=>false)
 |.tuple _=>some (match t with
  |.tuple=>true
  |_=>false)
 |.list _=>some (match t with
  |.list=>true
  |_=>false)
 |.dict _=>none
def yx(t:M5)(d:Dat):Out Dat:=match Ai t d with
 |some b=>.ok (.bool b)
 |none=>.bad
def aif:Dat->String
 |.none=>"NoneType"
 |.int _=>"int"
 |.bool _=>"bool"
 |.str _=>"str"
 |.tuple _=>"tuple"
 |.list _=>"list"
 |.dict _=>"dict"
theorem aiH{K:aqE}{H:Hp}{a:Addr}{xs:List V}(h:SqL K H a xs):TyX K H (.ref a) (.type "list"):=by
 rcases h with(h|⟨o,h⟩)|⟨o,its,n,h1,h2,_⟩
 ·exact .base (.lst h)
 ·exact .base (.frz h)
 ·exact .kList h1 h2
theorem aiR{K:aqE}{H:Hp}{a:Addr}{xs:List V}(h:SqT K H a xs):TyX K H (.ref a) (.type "tuple"):=by
 rcases h with(h|⟨o,h⟩)|⟨o,its,n,h1,h2,_⟩
 ·exact .base (.tup h)
 ·exact .fTuple h
 ·exact .kTuple h1 h2
theorem alE{K:aqE}{g:Gh}{H:Hp}{x:V}{d:Dat}(h:dW K g H x d)(hd:∀kv,d≠.dict kv):TyX K H x (.type (aif d)):=by
 cases d with
 |none=>cases Fg h;exact .base .non
 |bool b=>cases CK h;exact .base (.bl _)
 |int b=>cases cG h;exact .base (.int _)
 |str b=>cases jL h;exact .base (.str _)
 |list b=>obtain⟨a,us,rfl,h1,_⟩:=iY h;exact aiH h1
 |tuple b=>obtain⟨a,us,rfl,h1,_⟩:=lF h;exact aiR h1
 |dict kv=>exact absurd rfl (hd kv)
theorem ZV{K:aqE}:PySem.W.kitOne K (.type "int") (.type "int")=some true:=kit_ty (by decide +kernel)
theorem ZP{K:aqE}:PySem.W.kitOne K (.type "int") (.type "bool")=some false:=kit_ty (by decide +kernel)
theorem Z8{K:aqE}:PySem.W.kitOne K (.type "int") (.type "str")=some false:=kit_ty (by decide +kernel)
theorem Wv{K:aqE}:PySem.W.kitOne K (.type "int") (.type "tuple")=some false:=kit_ty (by decide +kernel)
theorem Xv{K:aqE}:PySem.W.kitOne K (.type "int") (.type "list")=some false:=kit_ty (by decide +kernel)
theorem Xm{K:aqE}:PySem.W.kitOne K (.type "bool") (.type "int")=some true:=kit_ty (by decide +kernel)
theorem Wr{K:aqE}:PySem.W.kitOne K (.type "bool") (.type "bool")=some true:=kit_ty (by decide +kernel)
theorem Zx{K:aqE}:PySem.W.kitOne K (.type "bool") (.type "str")=some false:=kit_ty (by decide +kernel)
theorem Tp{K:aqE}:PySem.W.kitOne K (.type "bool") (.type "tuple")=some false:=kit_ty (by decide +kernel)
theorem Wu{K:aqE}:PySem.W.kitOne K (.type "bool") (.type "list")=some false:=kit_ty (by decide +kernel)
theorem aag{K:aqE}:PySem.W.kitOne K (.type "str") (.type "int")=some false:=kit_ty (by decide +kernel)
theorem Xh{K:aqE}:PySem.W.kitOne K (.type "str") (.type "bool")=some false:=kit_ty (by decide +kernel)
theorem aae{K:aqE}:PySem.W.kitOne K (.type "str") (.type "str")=some true:=kit_ty (by decide +kernel)
theorem Wd{K:aqE}:PySem.W.kitOne K (.type "str") (.type "tuple")=some false:=kit_ty (by decide +kernel)
theorem Zb{K:aqE}:PySem.W.kitOne K (.type "str") (.type "list")=some false:=kit_ty (by decide +kernel)
theorem Wc{K:aqE}:PySem.W.kitOne K (.type "tuple") (.type "int")=some false:=kit_ty (by decide +kernel)
theorem TX{K:aqE}:PySem.W.kitOne K (.type "tuple") (.type "bool")=some false:=kit_ty (by decide +kernel)
theorem Wt{K:aqE}:PySem.W.kitOne K (.type "tuple") (.type "str")=some false:=kit_ty (by decide +kernel)
theorem Ri{K:aqE}:PySem.W.kitOne K (.type "tuple") (.type "tuple")=some true:=kit_ty (by decide +kernel)
theorem RX{K:aqE}:PySem.W.kitOne K (.type "tuple") (.type "list")=some false:=kit_ty (by decide +kernel)
theorem XF{K:aqE}:PySem.W.kitOne K (.type "list") (.type "int")=some false:=kit_ty (by decide +kernel)
theorem Wj{K:aqE}:PySem.W.kitOne K (.type "list") (.type "bool")=some false:=kit_ty (by decide +kernel)
theorem Ym{K:aqE}:PySem.W.kitOne K (.type "list") (.type "str")=some false:=kit_ty (by decide +kernel)
theorem RM{K:aqE}:PySem.W.kitOne K (.type "list") (.type "tuple")=some false:=kit_ty (by decide +kernel)
theorem Wg{K:aqE}:PySem.W.kitOne K (.type "list") (.type "list")=some true:=kit_ty (by decide +kernel)
theorem OJ{K:aqE}:PySem.W.kitOne K (.type "NoneType") (.type "int")=some false:=kit_ty (by decide +kernel)
theorem Mw{K:aqE}:PySem.W.kitOne K (.type "NoneType") (.type "bool")=some false:=kit_ty (by decide +kernel)
theorem Pa{K:aqE}:PySem.W.kitOne K (.type "NoneType") (.type "str")=some false:=kit_ty (by decide +kernel)
theorem JV{K:aqE}:PySem.W.kitOne K (.type "NoneType") (.type "tuple")=some false:=kit_ty (by decide +kernel)
theorem Mr{K:aqE}:PySem.W.kitOne K (.type "NoneType") (.type "list")=some false:=kit_ty (by decide +kernel)
theorem ahL{K:aqE}{t:M5}{d:Dat}{b:Bool}(h:Ai t d=some b):PySem.W.kitOne K (.type (aif d)) (.type t.name)=some b/\∀kv,d≠.dict kv:=by
 cases d with
 |dict kv=>cases h
 |none=>
  refine⟨?_,fun _ z=>nomatch z⟩
  cases t <;> cases h
  ·exact OJ
  ·exact Mw
  ·exact Pa
  ·exact JV
  ·exact Mr
 |bool x=>
  refine⟨?_,fun _ z=>nomatch z⟩
  cases t <;> cases h
  ·exact Xm
  ·exact Wr
  ·exact Zx
  ·exact Tp
  ·exact Wu
 |int x=>
  refine⟨?_,fun _ z=>nomatch z⟩
  cases t <;> cases h
  ·exact ZV
  ·exact ZP
  ·exact Z8
  ·exact Wv
  ·exact Xv
 |str x=>
  refine⟨?_,fun _ z=>nomatch z⟩
  cases t <;> cases h
  ·exact aag
  ·exact Xh
  ·exact aae
  ·exact Wd
  ·exact Zb
 |list x=>
  refine⟨?_,fun _ z=>nomatch z⟩
  cases t <;> cases h
  ·exact XF
  ·exact Wj
  ·exact Ym
  ·exact RM
  ·exact Wg
 |tuple x=>
  refine⟨?_,fun _ z=>nomatch z⟩
  cases t <;> cases h
  ·exact Wc
  ·exact TX
  ·exact Wt
  ·exact Ri
  ·exact RX
def wD(t:M5)(a:QF):QF:=fH (yx t) a
section
variable{X:Cx}{aj:aO}{W:WX}{a b:Expr}{fa:QF}{pos p p2:Pos}{x y:Str}
theorem ajT{t:M5}(hg:Gl X x)(hm:X.mg x=none)(hv:BV (.builtin "isinstance") x)(hg2:Gl X y)(hm2:X.mg y=none)(hv2:BV (.type t.name) y)(ha:QW aj X W a fa)(hs:nst a=true):QE aj X W (.Call (.Name x p) [a,.Name y p2] [] pos) (wD t fa):=by
 have hb:PE X (.Name y p2) (tC (.ty t.name)):=pe_bltn hg2 hm2 hv2.1 rfl hv2.2.1 hv2.2.2
 have h1:=pa_cons ha (pa_cons hb pa_nil (cI (a:=.Name y p2) rfl [])) (cI hs [.Name y p2])
 have key:=pe_callB (pos:=pos) (p:=p) call_isi hg hm hv.1 h1 hv.2.1 hv.2.2 (cI hs [.Name y p2]) (star_any [.Name y p2] rfl)
 refine PE.weak key fun σ H Q ⟨g,ρ,M,I,h⟩=>?_
 refine tW.go I h.bnd fun d v H1 h1 e1 r1=>?_
 unfold yx at h1
 split at h1
 ·next bb e=>
  obtain⟨k1,k2⟩:=ahL (K:=X.K) e
  exact⟨v,_,_,_,bb,rfl,.ty _,alE r1 k2,k1,h1 _ H1 e1 (.bl _)⟩
 ·exact False.elim h1
end
inductive Src where
 |lst (a:Addr)|tup (a:Addr)|str (x:Str)
def chars(x:Str):List V:=x.cps.toList.map fun c=>V.str ⟨#[c]⟩
def Src.sq(K:aqE)(H:Hp)(us:List V):Src->Prop
 |.lst a=>SqL K H a us
 |.tup a=>SqT K H a us
 |.str x=>us=chars x
def Src.it(h:Heap)(i:Addr)(n:Nat):Src->Prop
 |.lst a=>h.IsListIter i a n
 |.tup a=>h.IsTupleIter i a n
 |.str x=>∃t,h.IsStrIter i (strIterType x) x t n
def Src.ad:Src->List Addr
 |.lst a=>[a]
 |.tup a=>[a]
 |.str _=>[]
section
variable{X:Cx}{pins:List (Addr×Obj)}{σ:L2.St}{H:Hp}{s:Shared}
theorem Src.inj{S:Src}{us ws:List V}(I:L2.Inv X pins σ H s)(h:S.sq X.K H us)(h':S.sq X.K H ws):us=ws:=by
 cases S with
 |lst a=>exact I.list_inj h h'
 |tup a=>exact I.tuple_inj h h'
 |str x=>exact Eq.trans h (Eq.symm h')
theorem Src.draws{S:Src}{us:List V}{i:Addr}{n:Nat}(I:L2.Inv X pins σ H s)(hA:X.A.handled=none)(hs:S.sq X.K H us)(hi:S.it s.heap i n)(hne:∀a∈S.ad,a≠i) :
  ∃(P:Nat->Value->Prop) (St:Nat->Heap->Prop),Draws X.prog X.w X.A.in1 i (i::S.ad) us.length P St/\St n s.heap/\(∀m h,St m h->S.it h i m)/\∀(m:Nat) (v:Value) (x:V),P m v->us[m]?=some x->RelV x v:=by
 cases S with
 |lst a=>
  obtain⟨its,rv,p,hz⟩:=I.list hs
  have hl:=rv.length
  have D:=Draws.list (prog:=X.prog) (w:=X.w) (A:=X.A.in1) hA i a (hne a (by simp[Src.ad])) its.toArray
  rw[arQ,←hl]at D
  refine⟨_,_,D,⟨hi,p.isList⟩,fun m h z=>z.1,fun m v x hv hx=>?_⟩
  obtain⟨u,hu,ru⟩:=rv.get hx
  have:v=u:=aq0 (hv.symm.trans (by simpa using hu))
  rw[this]
  exact ru
 |tup a=>
  obtain⟨its,rv,p,hz⟩:=I.tuple hs
  have hl:=rv.length
  have D:=Draws.tuple (prog:=X.prog) (w:=X.w) (A:=X.A.in1) hA i a (hne a (by simp[Src.ad])) its.toArray
  rw[arQ,←hl]at D
  refine⟨_,_,D,⟨hi,p⟩,fun m h z=>z.1,fun m v x hv hx=>?_⟩
  obtain⟨u,hu,ru⟩:=rv.get hx
  have:v=u:=aq0 (hv.symm.trans (by simpa using hu))
  rw[this]
  exact ru
 |str x=>
  obtain⟨t,hi⟩:=hi
  have hl:us.length=x.cps.size:=by
   rw[show us=chars x from hs]
   unfold chars
   rw[aqO,ari]
  have D:=Draws.text (prog:=X.prog) (w:=X.w) (A:=X.A.in1) hA i x t
  rw[←hl]at D
  refine⟨_,_,D,hi,fun m h z=>⟨t,z⟩,fun m v y hv hy=>?_⟩
  obtain⟨c,u,hc,rfl⟩:=hv
  rw[show us=chars x from hs]at hy
  unfold chars at hy
  rw[aqQ,aro,hc]at hy
  cases hy
  exact⟨u,rfl⟩
theorem Src.Lj{S:Src}{h:Heap}{i:Addr}{n:Nat}(hi:S.it h i n):∃o,h.get? i=some o/\∀v,o.data≠.cell v:=by
 cases S with
 |lst a=>obtain⟨o,e,_,d⟩:=hi;exact⟨o,e,fun v q=>by rw[d]at q;cases q⟩
 |tup a=>obtain⟨o,e,_,d⟩:=hi;exact⟨o,e,fun v q=>by rw[d]at q;cases q⟩
 |str x=>obtain⟨t,o,e,_,d⟩:=hi;exact⟨o,e,fun v q=>by rw[d]at q;cases q⟩
theorem Src.Mh{S:Src}{h h':Heap}{i:Addr}{n:Nat}(hi:S.it h i n)(k:∀o,h.get? i=some o->h'.get? i=some o):S.it h' i n:=by
 cases S with
 |lst a=>exact hi.at k
 |tup a=>exact hi.at k
 |str x=>obtain⟨t,o,e,r⟩:=hi;exact⟨t,o,k o e,r⟩
end
def ItE(K:aqE)(S:Src)(k₀:Int):It:=
 ⟨fun i H=>∃(us:List V) (x:V),S.sq K H us/\us[i]?=some x,fun i H v H'=>∃T x,v=.ref T/\H T=none/\H'=upd H T (.tup [.int (k₀+(i:Int)),x])/\∀us,S.sq K H us->us[i]?=some x,fun i H=>∃us:List V,S.sq K H us/\us.length=i⟩
theorem alm{P:Program}{w:World}{K:aqE}{elts:List Expr}{kk:Nat}{tpos:Pos}(S:Src)(e i0:Addr)(k₀:Int)(hne:e≠i0)(ha:∀a∈S.ad,e≠a/\a≠i0) :
  Turn P w K (.Tuple elts kk tpos) (ItE K S k₀) [e,i0] e (fun i h=>(∃old,IsEnum h e i0 (k₀+(i:Int)) old)/\S.it h i0 i) where
 mem:=by simp
 obj:=fun i h st b hb=>by
  obtain⟨⟨old,he⟩,hi⟩:=st
  have e':b=e∨b=i0:=by simpa using hb
  rcases e' with z|z
  ·rw[z];exact⟨_,he,fun v q=>nomatch q⟩
  ·rw[z];exact Src.Lj hi
 keep:=fun i h h' st k=>let ⟨⟨old,he⟩,hi⟩:=st;⟨⟨old,k e (by simp) _ he⟩,Src.Mh hi fun o q=>k i0 (by simp) o q⟩
 item:=by
  intro X hP hw hK hc i pins s σ H E I hf st hg
  subst hP hw hK
  obtain⟨⟨old,he⟩,hit⟩:=st
  obtain⟨us,x,hq,hx⟩:=hg
  obtain⟨PP,St,D,st0,stI,rel⟩:=Src.draws I (I.ok.hd hc) hq hit fun a z=>(ha a z).2
  have hel:e < s.heap.objs.size:=Heap.lt_size he
  have hil:i0 < s.heap.objs.size:=by obtain⟨_,q,_⟩:=Src.Lj hit;exact Heap.lt_size q
  have hin:i < us.length:=(aqG.mp hx).1
  refine wpAny_pyNext_enum_itemC D he st0 hin hne (fun z=>?_) fun v h' tk hP ho hst' hT hsz hk=>?_
  ·rcases aqV.mp z with z|z
   ·exact hne z
   ·exact(ha e z).1 rfl
  have ru:=rel i v x hP hx
  refine⟨_,rfl,wpAny_letOwnedTupleGo_enum (s:={ s with heap:=h',toks:=tk+1 }) ho fun h'' he' sb=>?_⟩
  have hT2:h''.get? s.heap.objs.size=some { cls:=.type "tuple",data:=.seq #[.int (k₀+(i:Int)) tk,v] }:=(sb.2 _ (Nat.ne_of_gt hel)).trans hT
  have new:ObjOk X.prog X.w (upd H s.heap.objs.size (.tup [.int (k₀+(i:Int)),x])) h'' s.heap.objs.size (.tup [.int (k₀+(i:Int)),x]):=
   ⟨by show 2<=sizeLine;decide,[.int (k₀+(i:Int)) tk,v],.cons ⟨_,rfl⟩ (.cons ru .nil),⟨_,hT2,rfl,_,rfl⟩⟩
  have I1:L2.Inv X pins σ (upd H s.heap.objs.size (.tup [.int (k₀+(i:Int)),x])) { s with heap:=h'',toks:=tk+1 }:=
   I.turnedNew (ch:=[e,i0]) (fun b ob hb q=>(sb.2 b (fun z=>hb (by simp[z]))).trans (hk b ob (fun z=>hb (by simp[z])) (fun z=>hb (by simp[z])) q)) hf (aq2 _) new
  refine⟨.ref s.heap.objs.size,_,I1,rfl,⟨_,x,rfl,I.hok.fresh (aq2 _),rfl,fun ys hy=>by rw[Src.inj I hy hq];exact hx⟩,⟨⟨v,?_⟩,Src.Mh (stI _ _ hst') fun o q=>(sb.2 i0 (Ne.symm hne)).trans q⟩,fun b hb=>?_⟩
  ·have e1:k₀+((i+1:Nat):Int)=k₀+(i:Int)+1:=by omega
   rw[e1];exact he'
  ·have hb':b < s.heap.objs.size:=by
    have e':b=e∨b=i0:=by simpa using hb
    rcases e' with z|z
    ·rw[z];exact hel
    ·rw[z];exact hil
   rw[upd_ne (ard hb')]
   exact(hf b hb).1
 done:=by
  intro X hP hw hK hc i pins s σ H E I hf st hg
  subst hP hw hK
  obtain⟨⟨old,he⟩,hit⟩:=st
  obtain⟨us,hq,hx⟩:=hg
  obtain⟨PP,St,D,st0,stI,rel⟩:=Src.draws I (I.ok.hd hc) hq hit fun a z=>(ha a z).2
  obtain⟨f0,f1,f2,f3,f4,f5⟩:=hf i0 (by simp)
  rw[←hx]at st0
  exact wpAny_pyNext_enum_endD D he st0 fun h' eb=>⟨rfl,I.turned (t':=s.toks) (fun b o hb q=>eb b o hb q) f0 f1 f3 f4 f5⟩
 self:=fun A i s Q E st h=>let ⟨⟨_,he⟩,_⟩:=st;wpAny_pyIter_enum he h
theorem Src.begins{X:Cx}{pins:List (Addr×Obj)}{σ:L2.St}{H:Hp}{s:Shared}{S:Src}{us:List V}{x:V}{v:Value}(I:L2.Inv X pins σ H s)(hs:S.sq X.K H us)(hx:(∃a,x=.ref a/\S.ad=[a]/\(S=.lst a∨S=.tup a))∨∃y,S=.str y/\x=.str y)(r:RelV x v) :
  ∃(o:Obj) (B:Heap->Prop),Begins v o B/\B s.heap/\(∀h i,h.get? i=some o->S.it h i 0)/\∀a∈S.ad,a < s.heap.objs.size:=by
 rcases hx with⟨a,rfl,ha,h|h⟩|⟨y,h,rfl⟩
 ·subst h
  cases r
  obtain⟨its,rv,p,_⟩:=I.list hs
  obtain⟨o1,ho1,_⟩:=id p.isList
  refine⟨_,_,begins_list a its.toArray,p.isList,fun h i e=>⟨_,e,rfl,rfl⟩,fun b hb=>?_⟩
  rw[ha]at hb
  rw[aqL.mp hb]
  exact Heap.lt_size ho1
 ·subst h
  cases r
  obtain⟨its,rv,p,_⟩:=I.tuple hs
  obtain⟨o1,ho1,_⟩:=id p
  refine⟨_,_,begins_tuple a its.toArray,p,fun h i e=>⟨_,e,rfl,rfl⟩,fun b hb=>?_⟩
  rw[ha]at hb
  rw[aqL.mp hb]
  exact Heap.lt_size ho1
 ·subst h
  obtain⟨t,rfl⟩:=r
  exact⟨_,_,begins_text y t,trivial,fun h i e=>⟨t,_,e,rfl,rfl⟩,fun b hb=>nomatch hb⟩
def srcOf(x:V)(S:Src):Prop:=(∃a,x=.ref a/\S.ad=[a]/\(S=.lst a∨S=.tup a))∨∃y,S=.str y/\x=.str y
def iEn(K:aqE)(ta:TA)(k₀:Int):TI:=fun σ H R=>ta σ H fun vs H1=>∃x S us,vs=[x]/\srcOf x S/\S.sq K H1 us/\R (ItE K S k₀) H1
section
variable{X:Cx}{a b:Expr}{ta tb:TA}{p pos tpos:Pos}{elts:List Expr}{kk:Nat}
theorem ajR{pins:List (Addr×Obj)}{σ:L2.St}{H:Hp}{s:Shared}(I:L2.Inv X pins σ H s):∀b∈[s.heap.objs.size+1,s.heap.objs.size],FpOk X pins H b:=fun b hb=>by
 have e':b=s.heap.objs.size+1∨b=s.heap.objs.size:=by simpa using hb
 have hle:s.heap.objs.size<=b:=by
  rcases e' with z|z
  ·rw[z];exact Nat.le_add_right _ _
  ·rw[z];exact aq2 _
 exact I.fpOk hle (I.hok.fresh hle)
theorem afQ{pins:List (Addr×Obj)}{σ:L2.St}{H:Hp}{s:Shared}{S:Src}{us:List V}{x:V}{v:Value}{o:Obj}{k₀:Int}{R:It->Hp->Prop}{h':Heap}(I:L2.Inv X pins σ H s)(hlt:∀a∈S.ad,a < s.heap.objs.size)(hit:∀h i,h.get? i=some o->S.it h i 0)
  (he:IsEnum h' (s.heap.objs.size+1) s.heap.objs.size k₀ .none) (ho:h'.get? s.heap.objs.size=some o) (hk:∀b o,s.heap.get? b=some o->h'.get? b=some o) (q:R (ItE X.K S k₀) H) :
  wpAny (model X.prog X.w) X.A (pyIter (.ref (s.heap.objs.size+1))) (PIE X pins σ (.Tuple elts kk tpos) R) X.xe { s with heap:=h' }:=by
 refine wpAny_pyIter_enum he ?_
 have I2:L2.Inv X pins σ H { s with heap:=h' }:=I.kept (t':=s.toks) hk
 refine⟨s.heap.objs.size+1,[s.heap.objs.size+1,s.heap.objs.size],_,_,H,rfl,I2,alm S (s.heap.objs.size+1) s.heap.objs.size k₀ (Nat.succ_ne_self _) (fun a z=>?_),⟨⟨.none,?_⟩,hit _ _ ho⟩,ajR I,q⟩
 ·have:=hlt a z
  exact⟨Nat.ne_of_gt (arH this),ard this⟩
 ·rw[show k₀+((0:Nat):Int)=k₀ by simp]
  exact he
theorem ae8{v:Value}{o:Obj}{B:Heap->Prop}(hB:Begins v o B) :
  Meets (Builtin.«enumerate.__new__» ⟨[.type "enumerate",v],[]⟩) (fun _ R s=>B s.heap/\
   R (.ok (.ret (.ref (s.heap.push o).objs.size))) { s with heap:=(s.heap.push o).push { cls:=.type "enumerate",data:=.fields #[.none,.bool false,.ref s.heap.objs.size,rawInt 0,.none,.none] } }):=
 .of_wp fun prog w A R s hh=>by
  obtain⟨hp,gs,dr,tk,os⟩:=s
  obtain⟨hb,hr⟩:=hh
  have hsub:=sub_enumerate
  have qi:∀{A':Around} {E:Value->Shared->Prop} {Q:Value->Shared->Prop},Q (.ref hp.objs.size) ⟨hp.push o,gs,dr,tk,os⟩->wpAny (model prog w) A' (pyIter v) Q E ⟨hp,gs,dr,tk,os⟩:=fun z=>hB.iter prog w _ _ ⟨hp,gs,dr,tk,os⟩ _ hb z
  wp_walk using qi
  refine wpAny_stack_any fun st=>wpAny_pure ?_
  split
  ·next c _ _ _ _ _=>
   cases(c==Value.type "enumerate") <;> (wp_walk using qi;exact⟨_,rfl,hr⟩)
  ·wp_walk using qi
   exact⟨_,rfl,hr⟩
theorem adn{prog:Program}{w:World}{A:Around}{E:Value->Shared->Prop}{s:Shared}{v:Value}{o:Obj}{B:Heap->Prop}{Q:Value->Shared->Prop}(hB:Begins v o B)(hb:B s.heap)
  (h:∀h',IsEnum h' (s.heap.objs.size+1) s.heap.objs.size 0 .none->h'.get? s.heap.objs.size=some o->(∀b o,s.heap.get? b=some o->h'.get? b=some o)->Q (.ref (s.heap.objs.size+1)) { s with heap:=h' }) :
  wpAny (model prog w) A (call (.type "enumerate") [v]) Q E s:=by
 refine callType_new F.called_enumerate (by decide) (F.typeCall_enumerate_1 _) (F.newCall_enumerate_1 _) (fun ob=>F.args_object_init_2 ob _) F.entry_enumerate_new (ae8 hB) ⟨hb,?_⟩
 have hz:(s.heap.push o).objs.size=s.heap.objs.size+1:=Heap.size_push ..
 have he:=Heap.get?_push_size (s.heap.push o) (o:={ cls:=.type "enumerate",data:=.fields #[.none,.bool false,.ref s.heap.objs.size,rawInt 0,.none,.none] }) rfl
 show _/\_
 rw[hz]at he ⊢
 exact⟨⟨_,he,rfl⟩,h _ he (Heap.get?_push_of_some _ (Heap.get?_push_size _ hB.free)) fun b u z=>Heap.get?_push_of_some _ (Heap.get?_push_of_some _ z)⟩
theorem ak5(hg:Gl X "enumerate")(hm:X.mg "enumerate"=none)(ha:PA X [a] ta)(hs:nst a=true):PI X (.Tuple elts kk tpos) (.Call (.Name "enumerate" p) [a] [] pos) (iEn X.K ta 0):=by
 refine⟨fun pins s σ H R I h=>?_⟩
 refine Call_ (ld_blt I hg hm boot_enumerate (PyProof.Rows.callWith_type1 (thn (ha.run pos pins s σ H _ I h) fun us s1 ⟨vs,H1,I1,r1,x,S,us',ev,hx,hq,q⟩=>?_) (cI hs []) (by with_unfolding_all rfl)))
 subst ev
 obtain⟨v,rfl,r⟩:=vals1 r1
 obtain⟨o,B,hB,hb,hit,hlt⟩:=Src.begins I1 hq hx r
 exact adn hB hb fun h' he ho hk=>afQ (x:=x) (v:=v) (us:=us') I1 hlt hit he ho hk q
theorem acZ{M:Model}{A:Around}{E:Value->Shared->Prop}{s:Shared}{pos:Pos}{T:String}{args:List (Bool×Sem Value)}{kws:List (Option Str×Sem Value)}{Q:Value->Shared->Prop}(h1:args.any (·.1)=false)(h2:kws.any (·.1.isNone)=false)
  (h:wpAny M A (evalArgs (.type T) true args kws) (fun z s₁=>wpAny M A (call (.type T) z.pos z.kw) Q E s₁) E s):wpAny M A (callWith pos (.type T) [] args kws) Q E s:=by
 unfold callWith
 refine wpAny_bind (wpAny_holding (wpAny_mono h (fun z s₁ hz=>wpAny_bind (wpAny_standAt ?_)) fun _ _ y=>y))
 rw[h1,h2]
 refine wpAny_bind (wpAny_pure ?_)
 exact wpAny_bind (wpAny_mono hz (fun r s₂ hr=>wpAny_bind (wpAny_holding (wpAny_point (wpAny_pure hr)))) fun _ _ y=>y)
theorem ai1{k₀:Int}{j:Nat}{kp kp2:Pos}(hk0 : -(2 ^ 63)<=k₀)(hk1:k₀ < 2 ^ 63)(hg:Gl X "enumerate")(hm:X.mg "enumerate"=none)(ha:PA X [a] ta)(hs:nst a=true) :
  PI X (.Tuple elts kk tpos) (.Call (.Name "enumerate" p) [a] [⟨some "start",.Constant (.int k₀) j kp,kp2⟩] pos) (iEn X.K ta k₀):=by
 refine⟨fun pins s σ H R I h=>?_⟩
 have hpk:PK X [⟨some "start",.Constant (.int k₀) j kp,kp2⟩] (tCons (tC (.int k₀)) tNil):=pk_cons pe_int pk_nil
 refine wpAny_Call_Name_kw (ld_blt I hg hm boot_enumerate (acZ (star_any [a] (by simp[hs])) (by with_unfolding_all rfl) ?_))
 refine PyProof.Rows.evalArgs_kw2 (by with_unfolding_all rfl) (thn (ha.run pos pins s σ H _ I h) fun us s1 ⟨vs,H1,I1,r1,x,S,us',ev,hx,hq,q⟩=>?_) (by first | (rw[cI hs];done) | (rw[cI hs];rfl) | rw[cI hs])
 refine thn (hpk.run pos pins s1 σ H1 (fun zs H2=>zs=[.int k₀]/\H2=H1) I1 ⟨rfl,rfl⟩) fun ws s2 ⟨zs,H2,I2,r2,e1,e2⟩=>?_
 subst ev e1 e2
 obtain⟨v,rfl,r⟩:=vals1 r1
 obtain⟨w,rfl,t,rfl⟩:=vals1 r2
 obtain⟨o,B,hB,hb,hit,hlt⟩:=Src.begins I2 hq hx r
 exact enum_begins_start hB hb hk0 hk1 fun h' he ho _ hk=>afQ (x:=x) (v:=v) (us:=us') I2 hlt hit he ho hk q
def ItZ(K:aqE)(S T:Src):It:=
 ⟨fun i H=>∃(us ws:List V) (x y:V),S.sq K H us/\T.sq K H ws/\us[i]?=some x/\ws[i]?=some y,fun i H v H'=>∃U x y,v=.ref U/\H U=none/\H'=upd H U (.tup [x,y])/\(∀us,S.sq K H us->us[i]?=some x)/\∀ws,T.sq K H ws->ws[i]?=some y,
  fun i H=>∃us ws:List V,S.sq K H us/\T.sq K H ws/\i=min us.length ws.length⟩
theorem alS{P:Program}{w:World}{K:aqE}{S T:Src}{N:Addr}(h1:∀a∈S.ad,a < N)(h2:∀a∈T.ad,a < N) :
  Turn P w K (.Tuple elts kk tpos) (ItZ K S T) [N+4,N+2,N+3,N,N+1] (N+4) (fun n h=>IsZip h (N+4) (N+2) (N+3) .none/\IsPair h (N+2) (.ref N) (.ref (N+1))/\(∃x y,IsPair h (N+3) x y)/\S.it h N n/\T.it h (N+1) n) where
 mem:=by simp
 obj:=fun n h q c hc=>by
  obtain⟨gz,gI,⟨x,y,gO⟩,i1,i2⟩:=q
  simp only[aqV,arh,or_false]at hc
  rcases hc with rfl|rfl|rfl|rfl|rfl
  ·exact⟨_,gz,fun v q=>nomatch q⟩
  ·exact⟨_,gI,fun v q=>nomatch q⟩
  ·exact⟨_,gO,fun v q=>nomatch q⟩
  ·exact Src.Lj i1
  ·exact Src.Lj i2
 keep:=fun n h h' q k=>by
  obtain⟨gz,gI,⟨x,y,gO⟩,i1,i2⟩:=q
  exact⟨k _ (by simp) _ gz,k _ (by simp) _ gI,⟨x,y,k _ (by simp) _ gO⟩,Src.Mh i1 fun o e=>k _ (by simp) o e,Src.Mh i2 fun o e=>k _ (by simp) o e⟩
 item:=by
  intro X hP hw hK hc n pins s σ H E I hf q hg
  subst hP hw hK
  obtain⟨gz,gI,⟨x0,y0,gO⟩,i1,i2⟩:=q
  obtain⟨us,ws,x,y,qx,qy,hx,hy⟩:=hg
  obtain⟨P1,St1,D1,st1,b1,rel1⟩:=Src.draws I (I.ok.hd hc) qx i1 fun a z=>ard (h1 a z)
  obtain⟨P2,St2,D2,st2,b2,rel2⟩:=Src.draws I (I.ok.hd hc) qy i2 fun a z=>ard (arH (h2 a z))
  have hzl:N+4 < s.heap.objs.size:=Heap.lt_size gz
  refine wpAny_pyNext_zipD2_item (zip_sep2 h1 h2) D1 D2 gz gI gO st1 st2 (aqG.mp hx).1 (aqG.mp hy).1 fun v1 v2 h' tk p1 p2 z' o' s1 s2 hT hsz hk=>?_
  refine⟨_,rfl,wpAny_letOwnedTupleGo_zip (s:={ s with heap:=h',toks:=tk }) z' fun h'' z'' sb=>?_⟩
  have hT2:=(sb.2 _ (Nat.ne_of_gt hzl)).trans hT
  have new:ObjOk X.prog X.w (upd H s.heap.objs.size (.tup [x,y])) h'' s.heap.objs.size (.tup [x,y]):=⟨by show 2<=sizeLine;decide,[v1,v2],.cons (rel1 n v1 x p1 hx) (.cons (rel2 n v2 y p2 hy) .nil),⟨_,hT2,rfl,_,rfl⟩⟩
  have I1:L2.Inv X pins σ (upd H s.heap.objs.size (.tup [x,y])) { s with heap:=h'',toks:=tk }:=by
   refine I.turnedNew (t':=tk) (ch:=[N+4,N+2,N+3,N,N+1]) (fun c o hb e=>?_) hf (aq2 _) new
   simp only[aqV,arh,or_false,not_or]at hb
   exact(sb.2 c hb.1).trans (hk c o hb.1 hb.2.2.1 hb.2.2.2.1 hb.2.2.2.2 e)
  have ne4:∀k,k≠4->N+k≠N+4:=fun k hk z=>hk (arV z)
  refine⟨.ref s.heap.objs.size,_,I1,rfl,⟨_,x,y,rfl,I.hok.fresh (aq2 _),rfl,fun l hl=>by rw[Src.inj I hl qx];exact hx,fun l hl=>by rw[Src.inj I hl qy];exact hy⟩,⟨z'',?_,⟨v1,v2,?_⟩,?_,?_⟩,fun c hcm=>?_⟩
  ·exact(sb.2 _ (ne4 2 (by decide))).trans (hk _ _ (ne4 2 (by decide)) (fun z=>absurd (arV z) (by decide)) (fun z=>absurd (arV (z.trans (Nat.add_zero N).symm)) (by decide)) (fun z=>absurd (arV z) (by decide)) gI)
  ·exact(sb.2 _ (ne4 3 (by decide))).trans o'
  ·exact Src.Mh (b1 _ _ s1) fun o e=>(sb.2 _ (ne4 0 (by decide))).trans e
  ·exact Src.Mh (b2 _ _ s2) fun o e=>(sb.2 _ (ne4 1 (by decide))).trans e
  ·have hlt:c < s.heap.objs.size:=by
    simp only[aqV,arh,or_false]at hcm
    rcases hcm with rfl|rfl|rfl|rfl|rfl
    ·exact hzl
    ·exact Heap.lt_size gI
    ·exact Heap.lt_size gO
    ·obtain⟨_,e1,_⟩:=Src.Lj i1
     exact Heap.lt_size e1
    ·obtain⟨_,e2,_⟩:=Src.Lj i2
     exact Heap.lt_size e2
   rw[upd_ne (ard hlt)]
   exact(hf c hcm).1
 done:=by
  intro X hP hw hK hc n pins s σ H E I hf q hg
  subst hP hw hK
  obtain⟨gz,gI,⟨x0,y0,gO⟩,i1,i2⟩:=q
  obtain⟨us,ws,qx,qy,hn⟩:=hg
  obtain⟨P1,St1,D1,st1,b1,rel1⟩:=Src.draws I (I.ok.hd hc) qx i1 fun a z=>ard (h1 a z)
  obtain⟨P2,St2,D2,st2,b2,rel2⟩:=Src.draws I (I.ok.hd hc) qy i2 fun a z=>ard (arH (h2 a z))
  refine wpAny_pyNext_zipD2_end (zip_sep2 h1 h2) D1 D2 gz gI gO st1 st2 (by omega) (by omega) (by omega) fun h' tk hk=>⟨rfl,?_⟩
  refine I.turnedL (t':=tk) (ch:=[N+4,N+2,N+3,N,N+1]) (fun c o hb e=>?_) hf
  simp only[aqV,arh,or_false,not_or]at hb
  exact hk c o hb.1 hb.2.2.1 hb.2.2.2.1 hb.2.2.2.2 e
 self:=fun A n s Q E q h=>wpAny_pyIter_zip q.1 h
def iZp(K:aqE)(ta:TA):TI:=fun σ H R=>ta σ H fun vs H1=>∃x y S T us ws,vs=[x,y]/\srcOf x S/\srcOf y T/\S.sq K H1 us/\T.sq K H1 ws/\R (ItZ K S T) H1
theorem akX(hg:Gl X "zip")(hm:X.mg "zip"=none)(ha:PA X [a,b] ta)(hs:nst a=true)(hs2:nst b=true):PI X (.Tuple elts kk tpos) (.Call (.Name "zip" p) [a,b] [] pos) (iZp X.K ta):=by
 refine⟨fun pins s σ H R I h=>?_⟩
 refine Call_ (ld_blt I hg hm PyProof.Rows.boot_zip (PyProof.Rows.callWith_type1 (thn (ha.run pos pins s σ H _ I h) fun us s1 ⟨vs,H1,I1,r1,x,y,S,T,us',ws',ev,hx,hy,hq,hq2,q⟩=>?_) (cI hs [b]) (star_any [b] (by simp[hs2]))))
 subst ev
 obtain⟨v1,v2,rfl,rv1,rv2⟩:=vals2 r1
 obtain⟨o1,B1,hB1,hb1,hit1,hlt1⟩:=Src.begins I1 hq hx rv1
 obtain⟨o2,B2,hB2,hb2,hit2,hlt2⟩:=Src.begins I1 hq2 hy rv2
 refine zip_begins2 hB1 hB2 hb1 hb2 fun h' hz hTI hTO e1 e2 hsz hk=>wpAny_pyIter_zip hz ?_
 have I2:L2.Inv X pins σ H1 { s1 with heap:=h' }:=I1.kept (t':=s1.toks) hk
 refine⟨s1.heap.objs.size+4,_,_,_,H1,rfl,I2,alS hlt1 hlt2,⟨hz,hTI,⟨_,_,hTO⟩,hit1 _ _ e1,hit2 _ _ e2⟩,fun c hcm=>?_,q⟩
 have hle:s1.heap.objs.size<=c:=by
  simp only[aqV,arh,or_false]at hcm
  rcases hcm with rfl | rfl | rfl | rfl | rfl <;> first | exact aq2 _ | exact Nat.le_add_right _ _
 exact I1.fpOk hle (I1.hok.fresh hle)
end
section
variable{K:aqE}{aj:aO}{q:Bool}{g g':Gh}{H H':Hp}{v:V}{d:Dat}{σ:L2.St}{ρ:Env}{M:Mo}
theorem ju.up{l:Addr}:∀{n:Bool} {kvs:List (Dat×Dat)} (r:Gr true g g' H H') (e:Ex H H') (k:Kd g H) (h:ju K aj g H l n kvs),ju K aj g' H' l n kvs
 |false,_,r,e,k,⟨kv,h1,h2,h3⟩=>⟨kv,e _ _ h1,h2,h3.gr r k⟩
 |true,_,r,e,k,⟨o,xs,vs,h1,h2,h3,h4,h5,h6⟩=>⟨o,xs,vs,e _ _ h1,h2,h3,h4.gr r k,h5,h6.gr r k⟩
theorem dR.up{h:Nat}{f:Str}(r:Gr true g g' H H')(e:Ex H H')(k:Kd g H):∀{fl:iW},dR K aj g H h f v fl->dR K aj g' H' h f v fl
 |.dat _,z=>Rep.gr r k z
 |.lst _ _,⟨l,us,h1,h2,h3,h4,h5⟩=>⟨l,us,h1,e _ _ h2,by rw[(r.qg rfl).2];exact h3,h4.gr r k,r.tb h5⟩
 |.dic _ _,⟨l,h1,h2,h3⟩=>⟨l,h1,by rw[(r.qg rfl).2];exact h2,h3.up r e k⟩
theorem cO.up{h:Nat}(r:Gr true g g' H H')(e:Ex H H')(k:Kd g H):∀{fs:List (Str×V)} {gs:List (Str×iW)},cO K aj g H h fs gs->cO K aj g' H' h fs gs
 |_,_,.nil=>.nil
 |_,_,.cons z t=>.cons (dR.up r e k z) (cO.up r e k t)
theorem fU.up(r:Gr true g g' H H')(e:Ex H H')(k:Kd g H)(w:fU K aj g H M):fU K aj g' H' M where
 len:=by rw[(r.qg rfl).1];exact w.len
 inj:=by rw[(r.qg rfl).1];exact w.inj
 ins:=fun h a i ha hi hc=>by
  rw[(r.qg rfl).1]at ha
  obtain⟨C,dx,fs,c1,c2,c3⟩:=w.ins h a i ha hi hc
  exact⟨C,dx,fs,c1,e _ _ c2,c3.up r e k⟩
 nd:=w.nd
 fd:=w.fd
 tw:=by rw[(r.qg rfl).1,(r.qg rfl).2];exact w.tw
 dm:=w.dm
 nc:=w.nc
theorem SInv.up(r:Gr true g g' H H')(e:Ex H H')(k':Kd g' H')(I:SInv K aj σ H g ρ M):SInv K aj σ H' g' ρ M where
 kd:=k'
 wok:=I.wok.up r e I.kd
 len:=I.len
 dat:=fun i d h=>by
  obtain⟨v,h1,h2⟩:=I.dat i d h
  exact⟨v,h1,h2.gr r I.kd⟩
 own:=fun i xs h=>by
  obtain⟨l,us,h1,h2,h3,h4⟩:=I.own i xs h
  exact⟨l,us,h1,e _ _ h2,r.Lo l h3,h4.gr r I.kd⟩
 sep:=I.sep
def Gh.add(g:Gh)(D:Addr):Gh:={ g with Lo:=fun a=>g.Lo a∨a=D }
theorem Gh.Et{D:Addr}(n:H D=none)(e:Ex H H'):Gr true g (g.add D) H H' where
 keep:=fun a o h _ _=>e a o h
 keepW:=fun _ a o h _=>e a o h
 dom:=BW e
 tbl:=⟨[],by simp[Gh.add]⟩
 W:=fun _ h=>h
 nW:=fun _ h=>.inl h
 qg:=fun _=>⟨rfl,rfl⟩
 Lc:=rfl
 Lo:=fun _ h=>.inl h
 nLo:=fun a h=>h.elim .inl fun z=>.inr (by rw[z];exact n)
theorem Gh.akL{D:Addr}{o:HO}(k:Kd g H)(n:H D=none)(e:Ex H H')(hD:H' D=some o)(m:Jc o):Kd (g.add D) H' where
 ob:=fun a z=>by
  rcases z with z|z|z|z
  ·obtain⟨o,h,m⟩:=k.ob a (.inl z);exact⟨o,e a o h,m⟩
  ·obtain⟨o,h,m⟩:=k.ob a (.inr (.inl z));exact⟨o,e a o h,m⟩
  ·obtain⟨o,h,m⟩:=k.ob a (.inr (.inr z));exact⟨o,e a o h,m⟩
  ·rw[z];exact⟨o,hD,m⟩
 lo:=fun a z=>by
  rcases z with z|z
  ·exact k.lo a z
  ·intro w
   subst z
   exact k.fresh n (.inl w)
 lc:=fun a z=>⟨(k.lc a z).1,fun y=>y.elim (k.lc a z).2 fun y=>by subst y;exact k.fresh n (.inr (.inl z))⟩
theorem SInv.add{D:Addr}{o:HO}(I:SInv K aj σ H g ρ M)(n:H D=none)(e:Ex H H')(hD:H' D=some o)(m:Jc o):SInv K aj σ H' (g.add D) ρ M:=
 I.up (Gh.Et n e) e (Gh.akL I.kd n e hD m)
theorem SInv.set{j:Nat}(I:SInv K aj σ H g ρ M)(r:Rep K g H v d):SInv K aj (σ.set j (some v)) H g (ρ.set j (some (.dat d))) M where
 kd:=I.kd
 wok:=I.wok
 len:=by rw[aq4,aq4];exact I.len
 dat:=fun i e h=>by
  by_cases z:j=i
  ·subst z
   have hj:j < ρ.length:=by
    have:=(aqG.mp h).1
    rw[aq4]at this
    exact this
   rw[aqX hj]at h
   cases h
   exact⟨v,by rw[aqX (by rw[I.len];exact hj)],r⟩
  ·rw[aqN z]at h
   obtain⟨u,h1,h2⟩:=I.dat i e h
   exact⟨u,by rw[aqN z];exact h1,h2⟩
 own:=fun i xs h=>by
  by_cases z:j=i
  ·subst z
   have hj:j < ρ.length:=by
    have:=(aqG.mp h).1
    rw[aq4]at this
    exact this
   rw[aqX hj]at h
   cases h
  ·rw[aqN z]at h
   obtain⟨l,us,h1,h2⟩:=I.own i xs h
   exact⟨l,us,by rw[aqN z];exact h1,h2⟩
 sep:=fun i k xs ys l ne h1 h2 h3=>by
  have nj:∀{i:Nat} {xs:List Dat},(ρ.set j (some (.dat d)))[i]?=some (some (.mut xs))->j≠i:=fun {i xs} h z=>by
   subst z
   have hj:j < ρ.length:=by
    have:=(aqG.mp h).1
    rw[aq4]at this
    exact this
   rw[aqX hj]at h
   cases h
  have n1:=nj h1
  have n2:=nj h2
  rw[aqN n1]at h1 h3
  rw[aqN n2]at h2
  rw[aqN n2]
  exact I.sep i k xs ys l ne h1 h2 h3
theorem SInv.forget{j:Nat}(I:SInv K aj σ H g ρ M):SInv K aj (σ.set j none) H g (ρ.set j none) M where
 kd:=I.kd
 wok:=I.wok
 len:=by rw[aq4,aq4];exact I.len
 dat:=fun i e h=>by
  by_cases z:j=i
  ·subst z
   have hj:j < ρ.length:=by
    have:=(aqG.mp h).1
    rw[aq4]at this
    exact this
   rw[aqX hj]at h
   cases h
  ·rw[aqN z]at h ⊢
   exact I.dat i e h
 own:=fun i xs h=>by
  by_cases z:j=i
  ·subst z
   have hj:j < ρ.length:=by
    have:=(aqG.mp h).1
    rw[aq4]at this
    exact this
   rw[aqX hj]at h
   cases h
  ·rw[aqN z]at h ⊢
   exact I.own i xs h
 sep:=fun i k xs ys l ne h1 h2 h3=>by
  have nj:∀{i:Nat} {xs:List Dat},(ρ.set j none)[i]?=some (some (.mut xs))->j≠i:=fun {i xs} h z=>by
   subst z
   have hj:j < ρ.length:=by
    have:=(aqG.mp h).1
    rw[aq4]at this
    exact this
   rw[aqX hj]at h
   cases h
  have n1:=nj h1
  have n2:=nj h2
  rw[aqN n1]at h1 h3
  rw[aqN n2]at h2
  rw[aqN n2]
  exact I.sep i k xs ys l ne h1 h2 h3
def cC(ρ:Env):List Nat->Env
 |[]=>ρ
 |j::js=>(cC ρ js).set j none
theorem SInv.wipe(I:SInv K aj σ H g ρ M):∀vs:List Nat,SInv K aj (L2.wipe σ vs) H g (cC ρ vs) M
 |[]=>I
 |j::js=>(SInv.wipe I js).forget
end
abbrev fK:=Dat->Env->Option Env
def aF(j:Nat):fK:=fun d ρ=>some (ρ.set j (some (.dat d)))
def qQ:List Nat->List Dat->Env->Option Env
 |[],[],ρ=>some ρ
 |j::js,d::ds,ρ=>qQ js ds (ρ.set j (some (.dat d)))
 |_,_,_=>none
def bL(js:List Nat):fK:=fun d ρ=>match d with
 |.tuple ds=>qQ js ds ρ
 |_=>none
def sets(σ:L2.St):List Nat->List V->L2.St
 |j::js,v::vs=>sets (σ.set j (some v)) js vs
 |_,_=>σ
def zJ(K:aqE)(aj:aO)(js:List Nat)(f:fK):TG:=fun v σ H Q=>∃g ρ M d ρ',SInv K aj σ H g ρ M/\Rep K g H v d/\f d ρ=some ρ'/\∀vs,SInv K aj (sets σ js vs) H g ρ' M->Q (sets σ js vs) H
def QG(aj:aO)(X:Cx)(tg:Expr)(js:List Nat)(f:fK):Prop:=PG X tg (zJ X.K aj js f)
theorem PG.weak{X:Cx}{e:Expr}{t t':TG}(h:PG X e t)(k:∀v σ H Q,t' v σ H Q->t v σ H Q):PG X e t':=⟨fun pins s σ H v u Q I r q=>h.run pins s σ H v u Q I r (k v σ H Q q)⟩
section
variable{X:Cx}{aj:aO}{pos:Pos}
theorem Ui{j:Nat}{x:Str}(hN:X.N.Nodup)(hi:X.N[j]?=some x)(hx:Loc X.env.scope x)(hf:X.fn x=true∨X.env.scope.names.lookup x=some .local):QG aj X (.Name x pos) [j] (aF j):=
 PG.weak (pg_name hN hi hx hf) fun v σ H Q ⟨g,ρ,M,d,ρ',I,r,e,q⟩=>by
  cases e
  exact q [v] (I.set r)
def Rb(X:Cx):List Expr->List Nat->Prop
 |[],[]=>True
 |.Name x _::es,j::js=>X.N[j]?=some x/\Loc X.env.scope x/\(X.fn x=true∨X.env.scope.names.lookup x=some .local)/\Rb X es js
 |_,_=>False
theorem aez{es:List Expr}{js:List Nat}(h:Rb X es js):(assignEach es X.env).length=js.length/\(assignEach es X.env).findIdx? (·.1)=none:=by
 induction es generalizing js with
 |nil=>
  cases js with
  |nil=>exact⟨by with_unfolding_all rfl,by with_unfolding_all rfl⟩
  |cons j js=>exact False.elim h
 |cons e es ih=>
  cases js with
  |nil=>cases e <;> exact False.elim h
  |cons j js=>
   cases e with
   |Name x p=>
    obtain⟨h1,h2⟩:=ih h.2.2.2
    have e1:assignEach (.Name x p::es) X.env=(false,assign (.Name x p) X.env)::assignEach es X.env:=by with_unfolding_all rfl
    rw[e1]
    refine⟨by simp[h1],?_⟩
    rw[List.findIdx?_cons,h2]
    rfl
   |_=>exact False.elim h
def gNs(js:List Nat):TGs:=fun vs σ H Q=>vs.length=js.length/\Q (sets σ js vs) H
theorem Uz(hN:X.N.Nodup):∀{es:List Expr} {js:List Nat},Rb X es js->PGs X es (gNs js)
 |[],[],_=>⟨fun pins s σ H vs us Q I r h=>by
  obtain⟨e,h⟩:=h
  have:vs=[]:=List.length_eq_zero_iff.mp e
  subst this
  exact pgs_nil.run pins s σ H [] us Q I r ⟨rfl,h⟩⟩
 |.Name x p::es,j::js,h=>by
  have hp:=pgs_cons (pg_name (pos:=p) hN h.1 h.2.1 h.2.2.1) (Uz hN h.2.2.2) (by with_unfolding_all rfl)
  refine⟨fun pins s σ H vs us Q I r hq=>?_⟩
  obtain⟨e,hq⟩:=hq
  cases vs with
  |nil=>cases e
  |cons v vs=>exact hp.run pins s σ H (v::vs) us Q I r ⟨v,vs,rfl,arv e,hq⟩
 |[],_::_,h=>False.elim h
 |.Name _ _::_,[],h=>False.elim h
theorem Ir{K:aqE}{g:Gh}{H:Hp}{M:Mo}:∀{js:List Nat} {ds:List Dat} {vs:List V} {σ:L2.St} {ρ ρ':Env},SInv K aj σ H g ρ M->aH K g H vs ds->qQ js ds ρ=some ρ'->vs.length=js.length/\SInv K aj (sets σ js vs) H g ρ' M
 |[],_,_,_,_,_,I,.nil,e=>by cases e;exact⟨rfl,I⟩
 |[],_,_,_,_,_,I,.cons _ _,e=>by cases e
 |j::js,_,_,_,_,_,I,.nil,e=>by cases e
 |j::js,_,_,_,_,_,I,.cons r t,e=>by
  obtain⟨h1,h2⟩:=Ir (js:=js) (I.set (j:=j) r) t e
  exact⟨by simp[h1],h2⟩
theorem adY{es:List Expr}{js:List Nat}{k:Nat}(hc:X.calm=true)(hN:X.N.Nodup)(h:Rb X es js):QG aj X (.Tuple es k pos) js (bL js):=by
 obtain⟨h1,h2⟩:=aez h
 refine PG.weak (pg_tup (n:=js.length) hc (Uz hN h) h1 h2) fun v σ H Q ⟨g,ρ,M,d,ρ',I,r,e,q⟩=>?_
 unfold bL at e
 split at e
 ·obtain⟨a,us,rfl,s1,t1⟩:=lF r.weak
  obtain⟨l1,I1⟩:=Ir I t1 e
  exact⟨a,us,rfl,s1,l1,l1,q us I1⟩
 ·cases e
theorem zG:∀(js:List Nat) (vs:List V) (σ:L2.St) (ws:List Nat),(∀j∈js,j∈ws)->L2.wipe (sets σ js vs) ws=L2.wipe σ ws
 |[],_,_,_,_=>by unfold sets;rfl
 |_::_,[],_,_,_=>by unfold sets;rfl
 |j::js,v::vs,σ,ws,h=>by
  show L2.wipe (sets (σ.set j (some v)) js vs) ws=_
  rw[zG js vs _ ws fun k hk=>h k (aqJ _ hk)]
  have hj:j∈ws:=h j aqK
  have key:∀(ws:List Nat) (σ:L2.St),j∈ws->L2.wipe (σ.set j (some v)) ws=L2.wipe σ ws:=by
   intro ws
   induction ws with
   |nil=>intro σ z;cases z
   |cons k ws ih=>
    intro σ z
    show(L2.wipe (σ.set j (some v)) ws).set k none=(L2.wipe σ ws).set k none
    by_cases hk:j∈ws
    ·rw[ih σ hk]
    ·have e:j=k:=by
      rcases aqV.mp z with z|z
      ·exact z
      ·exact absurd z hk
     subst e
     have comm:∀(ws:List Nat),j∉ws->L2.wipe (σ.set j (some v)) ws=(L2.wipe σ ws).set j (some v):=by
      intro ws
      induction ws with
      |nil=>intro _;rfl
      |cons m ws ih2=>
       intro hm
       show(L2.wipe (σ.set j (some v)) ws).set m none=((L2.wipe σ ws).set m none).set j (some v)
       rw[ih2 fun z=>hm (aqJ _ z),List.set_comm _ _ (fun z=>hm (by rw[z];exact aqK))]
     rw[comm ws hk,List.set_set]
  exact key ws σ hj
end
structure Jp(K:aqE)(J:It)(C:Gh->Hp->Prop)(ds:List Dat):Prop where
 go:∀g i H,C g H->i < ds.length->J.go i H
 yld:∀g i H x H' d,Kd g H->C g H->ds[i]?=some d->J.yld i H x H'->Ex H H'/\Rep K g H' x d
 stop:∀g i H,C g H->i=ds.length->J.stop i H
 ex:∀g H H',Kd g H->C g H->Ex H H'->C g H'
 add:∀g g' H H',Kd g H->C g H->Gr true g g' H H'->Ex H H'->C g' H'
def abF(C:Gh->Hp->Prop):Prop:=∀q g g' H H',Kd g H->C g H->Gr q g g' H H'->C g' H'
abbrev IF:=Mo->Env->Out (List Dat)
def tI(K:aqE)(aj:aO)(W:WX)(firm:Bool)(f:IF):TI:=fun σ H R=>∃g ρ M,SInv K aj σ H g ρ M/\(f M ρ).sat (fun ds=>∀J C H',Ex H H'->Jp K J C ds->C g H'->(firm=true->abF C)->R J H') (qG K aj W g H σ)
def QI(aj:aO)(X:Cx)(W:WX)(firm:Bool)(tg e:Expr)(f:IF):Prop:=PI X tg e (tI X.K aj W firm f)
def ZQ(x:Str):List Dat:=x.cps.toList.map fun c=>.str ⟨#[c]⟩
def oM:Dat->Out (List Dat)
 |.list ds=>.ok ds
 |.tuple ds=>.ok ds
 |.str x=>.ok (ZQ x)
 |_=>.bad
def dw(a:QF):IF:=fun M ρ=>(a M ρ).bind oM
def Src.cw(K:aqE)(S:Src)(ds:List Dat)(g:Gh)(H:Hp):Prop:=∃us,S.sq K H us/\aH K g H us ds
def Src.cf(K:aqE)(S:Src)(ds:List Dat)(g:Gh)(H:Hp):Prop:=∃us,(match S with
 |.lst a=>O8 K g H a us
 |.tup a=>SqT K H a us
 |.str x=>us=chars x)/\aH K g H us ds
section
variable{K:aqE}{g g':Gh}{H H':Hp}{ds es:List Dat}{S T:Src}
theorem Src.alA{us:List V}(e:Ex H H')(h:S.sq K H us):S.sq K H' us:=by
 cases S with
 |lst a=>exact ex_l e h
 |tup a=>exact ex_t e h
 |str x=>exact h
theorem Src.abM(h:S.cf K ds g H):S.cw K ds g H:=by
 obtain⟨us,h1,h2⟩:=h
 refine⟨us,?_,h2⟩
 cases S with
 |lst a=>exact O8.sq h1
 |tup a=>exact h1
 |str x=>exact h1
theorem Src.uD:abF (S.cf K ds):=fun q g g' H H' k ⟨us,h1,h2⟩ r=>by
 refine⟨us,?_,h2.gr r k⟩
 cases S with
 |lst a=>exact r.ls h1
 |tup a=>exact r.sqT k h1
 |str x=>exact h1
theorem Src.JZ(k:Kd g H)(h:S.cw K ds g H)(r:Gr true g g' H H')(e:Ex H H'):S.cw K ds g' H':=by
 obtain⟨us,h1,h2⟩:=h
 exact⟨us,Src.alA e h1,h2.gr r k⟩
theorem Src.WK(k:Kd g H)(h:S.cw K ds g H)(e:Ex H H'):S.cw K ds g H':=Src.JZ k h (Gr.ex e) e
end
section
variable{K:aqE}{ds es:List Dat}{S T:Src}
def ItS(K:aqE):Src->It
 |.lst a=>Itl K a
 |.tup a=>Itt K a
 |.str x=>Its x
theorem Dz{g:Gh}{H:Hp}(x:Str):aH K g H (chars x) (ZQ x):=by
 unfold chars ZQ
 induction x.cps.toList with
 |nil=>exact .nil
 |cons c cs ih=>exact .cons (.str _) ih
theorem Jp.of{J:It}{C C':Gh->Hp->Prop}(w:Jp K J C ds)(h:∀g H,C' g H->C g H)(e:∀g H H',Kd g H->C' g H->Ex H H'->C' g H')(a:∀g g' H H',Kd g H->C' g H->Gr true g g' H H'->Ex H H'->C' g' H'):Jp K J C' ds where
 go:=fun g i H c hi=>w.go g i H (h g H c) hi
 yld:=fun g i H x H' d k c e y=>w.yld g i H x H' d k (h g H c) e y
 stop:=fun g i H c e=>w.stop g i H (h g H c) e
 ex:=e
 add:=a
theorem aaG:Jp K (ItS K S) (S.cw K ds) ds where
 go:=fun g i H ⟨us,h1,h2⟩ hi=>by
  have hx:us[i]?=some (us[i]'(by rw[h2.length];exact hi)):=aqH _
  cases S with
  |lst a=>exact⟨us,_,h1,hx⟩
  |tup a=>exact⟨us,_,h1,hx⟩
  |str x=>
   show i < x.cps.size
   have:=h2.length
   rw[show us=chars x from h1]at this
   unfold chars at this
   rw[aqO,ari]at this
   omega
 yld:=fun g i H x H' d k ⟨us,h1,h2⟩ e y=>by
  obtain⟨v,hv,rv⟩:=h2.get e
  cases S with
  |lst a=>
   obtain⟨rfl,y⟩:=y
   have:x=v:=aq0 ((y us h1).symm.trans hv)
   rw[this]
   exact⟨Ex.refl _,rv⟩
  |tup a=>
   obtain⟨rfl,y⟩:=y
   have:x=v:=aq0 ((y us h1).symm.trans hv)
   rw[this]
   exact⟨Ex.refl _,rv⟩
  |str z=>
   obtain⟨rfl,c,hc,rfl⟩:=y
   rw[show us=chars z from h1]at hv
   unfold chars at hv
   rw[aqQ,aro,hc]at hv
   cases hv
   exact⟨Ex.refl _,rv⟩
 stop:=fun g i H ⟨us,h1,h2⟩ e=>by
  have hl:=h2.length
  cases S with
  |lst a=>exact⟨us,h1,by omega⟩
  |tup a=>exact⟨us,h1,by omega⟩
  |str x=>
   show x.cps.size<=i
   rw[show us=chars x from h1]at hl
   unfold chars at hl
   rw[aqO,ari]at hl
   omega
 ex:=fun g H H' k h e=>Src.WK k h e
 add:=fun g g' H H' k h r e=>Src.JZ k h r e
def rN(k₀:Int)(ds:List Dat):List Dat:=ds.mapIdx fun i d=>.tuple [.int (k₀+(i:Int)),d]
theorem afk{k₀:Int}:Jp K (ItE K S k₀) (S.cw K ds) (rN k₀ ds) where
 go:=fun g i H ⟨us,h1,h2⟩ hi=>by
  have hl:i < us.length:=by
   rw[h2.length]
   unfold rN at hi
   rw[List.length_mapIdx]at hi
   exact hi
  exact⟨us,us[i],h1,aqH hl⟩
 yld:=fun g i H x H' d k ⟨us,h1,h2⟩ e y=>by
  unfold rN at e
  rw[arp]at e
  cases hd:ds[i]? with
  |none=>rw[hd]at e;cases e
  |some d0=>
   rw[hd]at e
   cases e
   obtain⟨v,hv,rv⟩:=h2.get hd
   obtain⟨T,x0,rfl,nT,rfl,y⟩:=y
   have:x0=v:=aq0 ((y us h1).symm.trans hv)
   subst this
   exact⟨Ex.new nT,.tup (st_of upd_same) (.cons (.int _) (.cons (rv.ex (Ex.new nT) k) .nil))⟩
 stop:=fun g i H ⟨us,h1,h2⟩ e=>by
  unfold rN at e
  rw[List.length_mapIdx,←h2.length]at e
  exact⟨us,h1,e.symm⟩
 ex:=fun g H H' k h e=>Src.WK k h e
 add:=fun g g' H H' k h r e=>Src.JZ k h r e
def wY(ds es:List Dat):List Dat:=List.zipWith (fun d e=>.tuple [d,e]) ds es
theorem aav:Jp K (ItZ K S T) (fun g H=>S.cw K ds g H/\T.cw K es g H) (wY ds es) where
 go:=fun g i H ⟨⟨us,h1,h2⟩,⟨ws,h3,h4⟩⟩ hi=>by
  unfold wY at hi
  rw[List.length_zipWith,←h2.length,←h4.length]at hi
  exact⟨us,ws,us[i],ws[i],h1,h3,aqH (by omega),aqH (by omega)⟩
 yld:=fun g i H x H' d k ⟨⟨us,h1,h2⟩,⟨ws,h3,h4⟩⟩ e y=>by
  unfold wY at e
  rw[List.getElem?_zipWith]at e
  cases hd:ds[i]? with
  |none=>rw[hd]at e;cases e
  |some d0=>
   cases he:es[i]? with
   |none=>rw[hd,he]at e;cases e
   |some e0=>
    rw[hd,he]at e
    cases e
    obtain⟨v,hv,rv⟩:=h2.get hd
    obtain⟨u,hu,ru⟩:=h4.get he
    obtain⟨U,x0,y0,rfl,nU,rfl,y1,y2⟩:=y
    have:x0=v:=aq0 ((y1 us h1).symm.trans hv)
    subst this
    have:y0=u:=aq0 ((y2 ws h3).symm.trans hu)
    subst this
    exact⟨Ex.new nU,.tup (st_of upd_same) (.cons (rv.ex (Ex.new nU) k) (.cons (ru.ex (Ex.new nU) k) .nil))⟩
 stop:=fun g i H ⟨⟨us,h1,h2⟩,⟨ws,h3,h4⟩⟩ e=>by
  unfold wY at e
  rw[List.length_zipWith,←h2.length,←h4.length]at e
  exact⟨us,ws,h1,h3,e⟩
 ex:=fun g H H' k h e=>⟨Src.WK k h.1 e,Src.WK k h.2 e⟩
 add:=fun g g' H H' k h r e=>⟨Src.JZ k h.1 r e,Src.JZ k h.2 r e⟩
def gH(lo:Int)(n:Nat):List Dat:=(List.range n).map fun(i:Nat)=>.int (lo+(i:Int))
theorem V3{lo:Int}{n:Nat}:Jp K (Itr lo n) (fun _ _=>True) (gH lo n) where
 go:=fun g i H _ hi=>by
  unfold gH at hi
  rw[aqO,List.length_range]at hi
  exact hi
 yld:=fun g i H x H' d k _ e y=>by
  obtain⟨rfl,rfl⟩:=y
  unfold gH at e
  rw[aqQ]at e
  cases hr:(List.range n)[i]? with
  |none=>rw[hr]at e;cases e
  |some j=>
   rw[hr]at e
   cases e
   have:j=i:=by
    obtain⟨h1,h2⟩:=aqG.mp hr
    rw[List.getElem_range]at h2
    exact h2.symm
   subst this
   exact⟨Ex.refl _,.int _⟩
 stop:=fun g i H _ e=>by
  unfold gH at e
  rw[aqO,List.length_range]at e
  show n<=i
  omega
 ex:=fun _ _ _ _ _ _=>trivial
 add:=fun _ _ _ _ _ _ _ _=>trivial
end
section
variable{X:Cx}{aj:aO}{W:WX}{tg a b:Expr}{fa fb:QF}{pos p tpos:Pos}{elts:List Expr}{kk:Nat}
theorem Mf{K:aqE}{g:Gh}{H:Hp}{v:V}{d:Dat}{ds:List Dat}{firm:Bool}(r:if firm=true then Rep K g H v d else dW K g H v d)(h:oM d=.ok ds):∃S,srcOf v S/\S.cw K ds g H/\(firm=true->S.cf K ds g H):=by
 have rw:dW K g H v d:=by
  cases firm with
  |true=>exact Rep.weak r
  |false=>exact r
 cases d with
 |list es=>
  cases h
  obtain⟨l,us,rfl,h1,h2⟩:=iY rw
  refine⟨.lst l,.inl ⟨l,rfl,rfl,.inl rfl⟩,⟨us,h1,h2⟩,fun z=>?_⟩
  subst z
  have r:Rep K g H (.ref l) (.list ds):=r
  cases r with
  |lst h3 h4=>exact⟨_,h3,h4⟩
 |tuple es=>
  cases h
  obtain⟨l,us,rfl,h1,h2⟩:=lF rw
  exact⟨.tup l,.inl ⟨l,rfl,rfl,.inr rfl⟩,⟨us,h1,h2⟩,fun _=>⟨us,h1,h2⟩⟩
 |str x=>
  cases h
  cases jL rw
  exact⟨.str x,.inr ⟨x,rfl,rfl⟩,⟨_,rfl,Dz x⟩,fun _=>⟨_,rfl,Dz x⟩⟩
 |_=>cases h
def tF(K:aqE)(aj:aO)(W:WX)(firm:Bool)(f:QF):TE:=if firm=true then tQ K aj W f else tW K aj W f
def QF'(aj:aO)(X:Cx)(W:WX)(firm:Bool)(e:Expr)(f:QF):Prop:=PE X e (tF X.K aj W firm f)
theorem tF.go{K:aqE}{firm:Bool}{g:Gh}{H:Hp}{σ:L2.St}{ρ:Env}{M:Mo}{f:QF}{k:Dat->Prop}{Q:VK}(I:SInv K aj σ H g ρ M)(h:(f M ρ).sat k (qG K aj W g H σ))(hk:∀d v H',k d->Ex H H'->(if firm=true then Rep K g H' v d else dW K g H' v d)->Q v H'):tF K aj W firm f σ H Q:=by
 cases firm with
 |true=>exact tQ.go I h hk
 |false=>exact tW.go I h hk
theorem akO{K:aqE}{firm:Bool}{g:Gh}{H H':Hp}{v:V}{d:Dat}(e:Ex H H')(k:Kd g H)(r:if firm=true then Rep K g H v d else dW K g H v d):if firm=true then Rep K g H' v d else dW K g H' v d:=by
 cases firm with
 |true=>exact Rep.ex e k r
 |false=>exact dW.ex e k r
theorem wf{K:aqE}{S:Src}{firm:Bool}{J:It}{ds es:List Dat}{R:It->Hp->Prop}{g:Gh}{H H1:Hp}(h:∀J C H',Ex H H'->Jp K J C ds->C g H'->(firm=true->abF C)->R J H')(e1:Ex H H1)(w:Jp K J (S.cw K es) ds)(hw:S.cw K es g H1)(hf:firm=true->S.cf K es g H1):R J H1:=by
 cases firm with
 |true=>exact h J (S.cf K es) H1 e1 (w.of (fun _ _ z=>Src.abM z) (fun g H H' k c e=>Src.uD true g g H H' k c (Gr.ex e)) fun g g' H H' k c r e=>Src.uD true g g' H H' k c r) (hf rfl) fun _=>Src.uD
 |false=>exact h J (S.cw K es) H1 e1 w hw fun z=>nomatch z
theorem YK{firm:Bool}(ha:QF' aj X W firm a fa):QI aj X W firm tg a (dw fa):=by
 refine⟨fun pins s σ H R I h=>?_⟩
 obtain⟨g,ρ,M,SI,hs⟩:=h
 have hs:=hs.bnd
 have fin:∀(S:Src) (x:V) (H1:Hp) (ds:List Dat),(∀J C H',Ex H H'->Jp X.K J C ds->C g H'->(firm=true->abF C)->R J H')->Ex H H1->S.cw X.K ds g H1->(firm=true->S.cf X.K ds g H1)->R (ItS X.K S) H1:=fun S x H1 ds h e1 hw hf=>wf h e1 aaG hw hf
 cases hfa:fa M ρ with
 |bad=>rw[hfa]at hs;exact False.elim hs
 |exc x=>
  rw[hfa]at hs
  exact(pi_list ha).run pins s σ H R I (tF.go (k:=fun _=>False) SI (by rw[hfa];exact hs) fun d v H' z=>False.elim z)
 |ok d=>
  rw[hfa]at hs
  cases d with
  |list ds=>
   refine(pi_list ha).run pins s σ H R I (tF.go (k:=fun z=>z=.list ds) SI (by rw[hfa];rfl) fun d v H' z e1 r=>?_)
   subst z
   obtain⟨S,hS,hw,hf⟩:=Mf (firm:=firm) r (ds:=ds) rfl
   have rw:dW X.K g H' v (.list ds):=by
    cases firm with
    |true=>exact Rep.weak r
    |false=>exact r
   obtain⟨l,us,rfl,h1,h2⟩:=iY rw
   refine⟨l,rfl,⟨us,h1⟩,?_⟩
   rcases hS with⟨a',e,ha',hl|ht⟩|⟨y,_,e⟩
   ·cases e
    subst hl
    exact fin (.lst l) (.ref l) H' ds hs e1 hw hf
   ·cases e
    subst ht
    refine wf (S:=.lst l) hs e1 (aaG (S:=.lst l)) ⟨us,h1,h2⟩ fun z=>?_
    subst z
    have r:Rep X.K g H' (.ref l) (.list ds):=r
    cases r with
    |lst h3 h4=>exact⟨_,h3,h4⟩
   ·cases e
  |tuple ds=>
   refine(pi_tup ha).run pins s σ H R I (tF.go (k:=fun z=>z=.tuple ds) SI (by rw[hfa];rfl) fun d v H' z e1 r=>?_)
   subst z
   have rw:dW X.K g H' v (.tuple ds):=by
    cases firm with
    |true=>exact Rep.weak r
    |false=>exact r
   obtain⟨l,us,rfl,h1,h2⟩:=lF rw
   exact⟨l,rfl,⟨us,h1⟩,fin (.tup l) (.ref l) H' ds hs e1 ⟨us,h1,h2⟩ fun _=>⟨us,h1,h2⟩⟩
  |str x=>
   refine(pi_str ha).run pins s σ H R I (tF.go (k:=fun z=>z=.str x) SI (by rw[hfa];rfl) fun d v H' z e1 r=>?_)
   subst z
   have rw:dW X.K g H' v (.str x):=by
    cases firm with
    |true=>exact Rep.weak r
    |false=>exact r
   cases jL rw
   exact⟨x,rfl,fin (.str x) (.str x) H' _ hs e1 ⟨_,rfl,Dz x⟩ fun _=>⟨_,rfl,Dz x⟩⟩
  |_=>exact False.elim hs
def yg(a:QF):IF:=fun M ρ=>(a M ρ).bind fun d=>(zU d).bind fun n=>Out.when (decide (n<=100000/\-100000<=n)) (.ok (gH 0 n.toNat))
def Bm(a b:QF):IF:=fun M ρ=>(a M ρ).bind fun d=>(b M ρ).bind fun e=>(zU d).bind fun lo=>(zU e).bind fun n=>Out.when (decide (n<=100000/\-100000<=n/\lo<=100000/\-100000<=lo)) (.ok (gH lo (n - lo).toNat))
def yM(k₀:Int)(a:QF):IF:=fun M ρ=>(a M ρ).bind fun d=>(oM d).bind fun ds=>.ok (rN k₀ ds)
def JK(a b:QF):IF:=fun M ρ=>(a M ρ).bind fun d=>(b M ρ).bind fun e=>(oM d).bind fun ds=>(oM e).bind fun es=>.ok (wY ds es)
theorem adX{firm:Bool}(hg:Gl X "range")(hm:X.mg "range"=none)(ha:QW aj X W a fa)(hs:nst a=true):QI aj X W firm tg (.Call (.Name "range" p) [a] [] pos) (yg fa):=by
 refine⟨fun pins s σ H R I h=>?_⟩
 refine(pi_range1 hg hm (pa_cons ha pa_nil (cI hs [])) (cI hs [])).run pins s σ H R I ?_
 obtain⟨g,ρ,M,SI,h⟩:=h
 refine tW.go SI h.bnd fun d v H1 h1 e1 r1=>?_
 have h1:=h1.bnd
 unfold zU at h1
 split at h1
 ·obtain⟨hz,h1⟩:=h1.pU
  have hz:=of_decide_eq_true hz
  cases cG r1
  exact⟨_,rfl,by omega,by omega,h1 _ _ H1 e1 V3 trivial fun _=>fun _ _ _ _ _ _ _ _=>trivial⟩
 ·exact False.elim h1
theorem adC{firm:Bool}(hg:Gl X "range")(hm:X.mg "range"=none)(ha:QW aj X W a fa)(hb:QW aj X W b fb)(hs:nst a=true)(hs2:nst b=true):QI aj X W firm tg (.Call (.Name "range" p) [a,b] [] pos) (Bm fa fb):=by
 refine⟨fun pins s σ H R I h=>?_⟩
 refine(pi_range2 hg hm (pa_cons ha (pa_cons hb pa_nil (cI hs2 [])) (cI hs [b])) (by rw[cI hs,cI hs2];rfl) (cI hs2 [])).run pins s σ H R I ?_
 obtain⟨g,ρ,M,SI,h⟩:=h
 refine tW.go SI h.bnd fun d v H1 h1 e1 r1=>?_
 refine tW.go (SI.ex e1) (h1.bnd.mono (fun _ z=>z) fun _ z=>z.ex e1) fun d2 v2 H2 h2 e2 r2=>?_
 have h2:=h2.bnd
 unfold zU at h2
 split at h2
 ·have h2:=Out.sat.bnd h2
  split at h2
  ·obtain⟨hz,h2⟩:=Out.sat.pU h2
   have hz:=of_decide_eq_true hz
   cases cG r1
   cases cG r2
   exact⟨_,_,rfl,⟨by omega,by omega,by omega,by omega⟩,h2 _ _ H2 (e1.trans e2) V3 trivial fun _=>fun _ _ _ _ _ _ _ _=>trivial⟩
  ·exact False.elim h2
 ·exact False.elim h2
theorem agf{firm:Bool}{k₀:Int}(σ:L2.St)(H:Hp)(R:It->Hp->Prop)(h:tI X.K aj W firm (yM k₀ fa) σ H R):iEn X.K (tCons (tF X.K aj W firm fa) tNil) k₀ σ H R:=by
 obtain⟨g,ρ,M,SI,h⟩:=h
 refine tF.go SI h.bnd fun d v H1 h1 e1 r1=>?_
 cases hd:oM d with
 |bad=>rw[hd]at h1;exact False.elim h1
 |exc x=>cases d <;> cases hd
 |ok ds=>
  rw[hd]at h1
  obtain⟨S,hS,hw,hf⟩:=Mf r1 hd
  exact⟨v,S,_,rfl,hS,hw.choose_spec.1,wf h1 e1 afk hw hf⟩
theorem ahx{firm:Bool}(hg:Gl X "enumerate")(hm:X.mg "enumerate"=none)(ha:QF' aj X W firm a fa)(hs:nst a=true):QI aj X W firm (.Tuple elts kk tpos) (.Call (.Name "enumerate" p) [a] [] pos) (yM 0 fa):=
 ⟨fun pins s σ H R I h=>(ak5 hg hm (pa_cons ha pa_nil (cI hs [])) hs).run pins s σ H R I (agf σ H R h)⟩
theorem afE{firm:Bool}{k₀:Int}{j:Nat}{kp kp2:Pos}(hk0 : -(2 ^ 63)<=k₀)(hk1:k₀ < 2 ^ 63)(hg:Gl X "enumerate")(hm:X.mg "enumerate"=none)(ha:QF' aj X W firm a fa)(hs:nst a=true):QI aj X W firm (.Tuple elts kk tpos) (.Call (.Name "enumerate" p) [a] [⟨some "start",.Constant (.int k₀) j kp,kp2⟩] pos) (yM k₀ fa):=
 ⟨fun pins s σ H R I h=>(ai1 hk0 hk1 hg hm (pa_cons ha pa_nil (cI hs [])) hs).run pins s σ H R I (agf σ H R h)⟩
theorem ajL{firm:Bool}(hg:Gl X "zip")(hm:X.mg "zip"=none)(ha:QF' aj X W firm a fa)(hb:QF' aj X W firm b fb)(hs:nst a=true)(hs2:nst b=true):QI aj X W firm (.Tuple elts kk tpos) (.Call (.Name "zip" p) [a,b] [] pos) (JK fa fb):=by
 refine⟨fun pins s σ H R I h=>(akX hg hm (pa_cons ha (pa_cons hb pa_nil (cI hs2 [])) (cI hs [b])) hs hs2).run pins s σ H R I ?_⟩
 obtain⟨g,ρ,M,SI,h⟩:=h
 refine tF.go SI h.bnd fun d v H1 h1 e1 r1=>?_
 refine tF.go (SI.ex e1) (h1.bnd.mono (fun _ z=>z) fun _ z=>z.ex e1) fun d2 v2 H2 h2 e2 r2=>?_
 cases hd:oM d with
 |bad=>rw[hd]at h2;exact False.elim h2
 |exc x=>cases d <;> cases hd
 |ok ds=>
  cases he:oM d2 with
  |bad=>rw[hd,he]at h2;exact False.elim h2
  |exc x=>cases d2 <;> cases he
  |ok es=>
   rw[hd,he]at h2
   obtain⟨S,hS,hw,hf⟩:=Mf (akO e2 (SI.ex e1).kd r1) hd
   obtain⟨T,hT,hw2,hf2⟩:=Mf r2 he
   refine⟨v,v2,S,T,_,_,rfl,hS,hT,hw.choose_spec.1,hw2.choose_spec.1,?_⟩
   cases firm with
   |true=>exact h2 _ (fun g H=>S.cf X.K ds g H/\T.cf X.K es g H) H2 (e1.trans e2) (aav.of (fun _ _ z=>⟨Src.abM z.1,Src.abM z.2⟩) (fun g H H' k c e=>⟨Src.uD true g g H H' k c.1 (Gr.ex e),Src.uD true g g H H' k c.2 (Gr.ex e)⟩) fun g g' H H' k c r e=>⟨Src.uD true g g' H H' k c.1 r,Src.uD true g g' H H' k c.2 r⟩) ⟨hf rfl,hf2 rfl⟩ fun _=>fun q g g' H H' k c r=>⟨Src.uD q g g' H H' k c.1 r,Src.uD q g g' H H' k c.2 r⟩
   |false=>exact h2 _ _ H2 (e1.trans e2) aav ⟨hw,hw2⟩ fun z=>nomatch z
end
def WF:WX:=fun _ _ _ _=>False
def xK{α:Type}:Out α->Out α
 |.ok a=>.ok a
 |_=>.bad
@[simp]theorem Xi {α:Type} (a:α):xK (.ok a)=.ok a:=rfl
theorem Br{α:Type}{o:Out α}{P:α->Prop}{E E':dJ->Prop}(h:(xK o).sat P E):o.sat P E':=by
 cases o
 ·exact h
 ·exact False.elim h
 ·exact h
def dh(tg:fK)(tt:QT)(te:QF)(M:Mo)(ρ:Env):List Dat->Out (List Dat)
 |[]=>.ok []
 |d::ds=>match tg d ρ with
  |none=>.bad
  |some ρ1=>(xK (tt M ρ1)).bind fun b=>if b=true then(xK (te M ρ1)).bind fun y=>(dh tg tt te M ρ ds).bind fun r=>.ok (y::r) else dh tg tt te M ρ ds
def fu(it:IF)(tg:fK)(vs:List Nat)(tt:QT)(te:QF):QF:=fun M ρ=>(it M ρ).bind fun ds=>Out.when (decide (ds.length<=50000)) ((dh tg tt te M (cC ρ vs) ds).bind fun r=>.ok (.list r))
def jf:QT:=fun _ _=>.ok true
def tFr(K:aqE)(aj:aO)(W:WX)(f:IF):TE:=fun σ H Q=>∃g ρ M,SInv K aj σ H g ρ M/\(f M ρ).sat (fun xs=>∀l us H',H l=none->Ex H H'->H' l=some (.lst us)->aH K (g.add l) H' us xs->Q (.ref l) H') (qG K aj W g H σ)
def Cp(it:IF)(tg:fK)(vs:List Nat)(tt:QT)(te:QF):IF:=fun M ρ=>(it M ρ).bind fun ds=>Out.when (decide (ds.length<=50000)) (dh tg tt te M (cC ρ vs) ds)
section
variable{K:aqE}{aj:aO}{W:WX}
theorem Xp{g:Gh}{H:Hp}{D:Addr}{o o':HO}{vs:List V}{ds:List Dat}(k:Kd g H)(h:H D=some o)(l:g.Lo D)(r:aH K g H vs ds):aH K g (upd H D o') vs ds:=r.gr (Gr.upd (q:=true) k h (.inr l)) k
theorem ahX{g:Gh}{H:Hp}{D:Addr}{o o':HO}{v:V}{d:Dat}(k:Kd g H)(h:H D=some o)(l:g.Lo D)(r:Rep K g H v d):Rep K g (upd H D o') v d:=r.gr (Gr.upd (q:=true) k h (.inr l)) k
theorem qP{tg:fK}{tt:QT}{te:QF}{M:Mo}{ρ:Env}:∀{ds:List Dat} {x:dJ},dh tg tt te M ρ ds≠.exc x
 |[],_,h=>nomatch h
 |d::ds,x,h=>by
  rw[dh]at h
  split at h
  ·cases h
  ·next ρ1 e=>
   cases h1:tt M ρ1 with
   |bad=>rw[h1]at h;cases h
   |exc y=>rw[h1]at h;cases h
   |ok b=>
    rw[h1]at h
    cases b with
    |false=>exact qP h
    |true=>
     have h:((xK (te M ρ1)).bind fun y=>(dh tg tt te M ρ ds).bind fun r=>Out.ok (y::r))=.exc x:=h
     cases h2:te M ρ1 with
     |bad=>rw[h2]at h;cases h
     |exc y=>rw[h2]at h;cases h
     |ok y=>
      rw[h2]at h
      cases h3:dh tg tt te M ρ ds with
      |bad=>rw[h3]at h;cases h
      |exc z=>exact qP h3
      |ok r=>rw[h3]at h;cases h
theorem Ol(σ:L2.St)(i:Nat):∀vs:List Nat,(L2.wipe σ vs)[i]?=if i∈vs then(σ[i]?).map (fun _=>none) else σ[i]?
 |[]=>by simp[L2.wipe]
 |v::vs=>by
  show((L2.wipe σ vs).set v none)[i]?=_
  by_cases h:v=i
  ·subst h
   by_cases hl:v < σ.length
   ·rw[aqX (by rw[wipe_length];exact hl),if_pos aqK,aqH hl]
    rfl
   ·have h1:σ[v]?=none:=List.getElem?_eq_none_iff.mpr (by omega)
    rw[if_pos aqK,h1,List.getElem?_eq_none_iff.mpr (by rw[aq4,wipe_length];omega)]
    rfl
  ·rw[aqN h,Ol σ i vs]
   have:i∈v::vs↔i∈vs:=⟨fun z=>by
    rcases aqV.mp z with z|z
    ·exact absurd z.symm h
    ·exact z,aqJ _⟩
   simp only[this]
theorem CQ(σ:L2.St)(vs:List Nat):L2.wipe (L2.wipe σ vs) vs=L2.wipe σ vs:=by
 apply aq5
 intro i
 rw[Ol (L2.wipe σ vs) i vs,Ol σ i vs]
 split
 ·cases σ[i]? <;> rfl
 ·rfl
theorem Yg{it:IF}{tg:fK}{js vs:List Nat}{tt:QT}{te:QF}(hj:∀j∈js,j∈vs)(σ:L2.St)(H:Hp)(Q:VK)(h:tFr K aj W (Cp it tg vs tt te) σ H Q) :
  tLc (tI K aj W false it) (zJ K aj js tg) (j9 K aj WF tt) (tQ K aj WF te) vs σ H Q:=by
 obtain⟨g,ρ,M,I,h⟩:=h
 refine⟨g,ρ,M,I,h.bnd.mono (fun ds hk J C H1 e1 w c _ D nD=>?_) fun _ z=>z⟩
 obtain⟨hz,hk⟩:=hk.pU
 have hlen:=of_decide_eq_true hz
 obtain⟨total,htot,hQ⟩:∃total,dh tg tt te M (cC ρ vs) ds=.ok total/\∀l us H',H l=none->Ex H H'->H' l=some (.lst us)->aH K (g.add l) H' us total->Q (.ref l) H':=by
  cases hc:dh tg tt te M (cC ρ vs) ds with
  |bad=>rw[hc]at hk;exact False.elim hk
  |exc x=>exact absurd hc qP
  |ok total=>
   rw[hc]at hk
   exact⟨total,rfl,hk⟩
 have I1:=(I.ex e1).wipe vs
 have kD:∀{Ha:Hp} {us:List V},Ex H1 Ha->Ha D=some (.lst us)->SInv K aj (L2.wipe σ vs) Ha (g.add D) (cC ρ vs) M:=fun ea hu=>I1.add nD ea hu trivial
 let Pv:Nat->Hp->Prop:=fun i Ha=>Ex H1 Ha/\i<=ds.length/\∃us ys,Ha D=some (.lst us)/\aH K (g.add D) Ha us ys/\ys.length<=i/\(dh tg tt te M (cC ρ vs) (ds.drop i)).sat (fun r=>total=ys++r) fun _=>False
 refine⟨fun i m Ha=>m=ds.length - i/\Pv i Ha,⟨ds.length,rfl,Ex.new nD,arn _,[],[],upd_same,.nil,aq2 _,?_⟩,?_⟩
 ·rw[arX,htot]
  rfl
 ·rintro i m Ha ⟨rfl,ea,hi,us,ys,hu,hU,hy,hs⟩
  have Ia:=kD ea hu
  have Ca:=w.add g (g.add D) H1 Ha (I.kd.ex e1) c (Gh.Et nD ea) ea
  by_cases hlt:i < ds.length
  ·refine .inr ⟨w.go _ i Ha Ca hlt,Pv (i+1),fun H' p=>⟨ds.length - (i+1),by omega,rfl,p⟩,fun x H' y=>?_⟩
   have hd:ds[i]?=some ds[i]:=aqH hlt
   obtain⟨e2,rx⟩:=w.yld _ i Ha x H' _ Ia.kd Ca hd y
   have I2:=Ia.ex e2
   rw[arz hlt,dh]at hs
   split at hs
   ·exact False.elim hs
   ·next ρ1 he=>
    refine⟨g.add D,_,M,_,ρ1,I2,rx,he,fun ws I3=>⟨zG js ws _ vs hj |>.trans (CQ σ vs),?_⟩⟩
    refine j9.go I3 (Br hs.bnd) fun b H3 hb e3=>?_
    have I4:=I3.ex e3
    have hu3:=e3 _ _ (e2 _ _ hu)
    have hU3:=(hU.ex e2 Ia.kd).ex e3 I2.kd
    cases b with
    |false=>
     have hb:(dh tg tt te M (cC ρ vs) (ds.drop (i+1))).sat (fun r=>total=ys++r) fun _=>False:=hb
     exact⟨(ea.trans e2).trans e3,hlt,us,ys,hu3,hU3,Nat.le_succ_of_le hy,hb⟩
    |true=>
     have hb:((xK (te M ρ1)).bind fun y=>(dh tg tt te M (cC ρ vs) (ds.drop (i+1))).bind fun r=>Out.ok (y::r)).sat (fun r=>total=ys++r) fun _=>False:=hb
     refine tQ.go I4 (Br hb.bnd) fun y v H4 hyv e4 ry=>?_
     have I5:=I4.ex e4
     have hu4:=e4 _ _ hu3
     have hU4:=hU3.ex e4 I4.kd
     have lD:(g.add D).Lo D:=.inr rfl
     refine⟨us,hu4,sz_lt (by rw[hU.length];omega),Ex.mut (((ea.trans e2).trans e3).trans e4) nD,hlt,us++[v],ys++[y],upd_same,?_,by simp;omega,hyv.bnd.mono (fun r hr=>?_) fun _ z=>z⟩
     ·exact Xp I5.kd hu4 lD (hU4.append (.cons ry .nil))
     ·have hr:total=ys++y::r:=hr
      rw[hr]
      simp
  ·have e:i=ds.length:=by omega
   refine .inl ⟨w.stop _ i Ha Ca e,?_⟩
   rw[e,arE]at hs
   have hs:total=ys++[]:=hs
   rw[ars]at hs
   subst hs
   exact hQ D us Ha (BW e1 D nD) (e1.trans ea) hu hU
theorem afN{it:IF}{tg:fK}{js vs:List Nat}{tt:QT}{te:QF}(hj:∀j∈js,j∈vs)(σ:L2.St)(H:Hp)(Q:VK)(h:tQ K aj W (fu it tg vs tt te) σ H Q) :
  tLc (tI K aj W false it) (zJ K aj js tg) (j9 K aj WF tt) (tQ K aj WF te) vs σ H Q:=by
 obtain⟨g,ρ,M,I,h⟩:=h
 refine Yg hj σ H Q ⟨g,ρ,M,I,?_⟩
 unfold Cp
 unfold fu at h
 cases hi:it M ρ with
 |bad=>rw[hi]at h;exact False.elim h
 |exc x=>rw[hi]at h;exact h
 |ok ds=>
  rw[hi]at h
  obtain⟨hz,h⟩:=Out.sat.pU h
  have h:=h.bnd
  show(Out.when (decide (ds.length<=50000)) (dh tg tt te M (cC ρ vs) ds)).sat _ _
  rw[hz,Out.V5]
  exact h.mono (fun xs z l us H' n e hl r=>z _ H' e (.lst (.inl ⟨.inl hl,I.kd.fresh n⟩) (aH.less (g:=g.add l) (g':=g) rfl (fun a z=>z.elim .inl fun z=>.inr (z.elim .inl fun z=>.inr (.inl z))) r))) fun _ z=>z
end
section
variable{X:Cx}{aj:aO}{W:WX}{elt tg iter:Expr}{pos p tpos:Pos}
theorem akt{X:Cx}:Takes X WF:=fun u s' ⟨a,B,sI,pins,σ,H,cls,d,e,I,nb,up,sky,na,os,ag,w⟩=>False.elim w
theorem ak3{scope:Scope}{own:List (Str×Nat)}{it:IF}{tgf:fK}{js:List Nat}{tt:QT}{te:QF}{ifs:List Expr}(hc:X.calm=true)(hN:X.N.Nodup)(hi:QI aj X W false tg iter it)(ok:blkC X.N X.env.scope scope own=true)(hj:∀j∈js,j∈own.map (·.2))
  (hg:∀(s:Shared) (H:Hp) (C:Addr) (cl:List (Str×Addr)) (fp:List Addr),QG aj (X.blk s H scope (compEnvC scope cl C X.env) fp) tg js tgf)
  (ht:∀(s:Shared) (H:Hp) (C:Addr) (cl:List (Str×Addr)) (fp:List Addr),PTs (X.blk s H scope (compEnvC scope cl C X.env) fp) ifs (j9 X.K aj WF tt))
  (he:∀(s:Shared) (H:Hp) (C:Addr) (cl:List (Str×Addr)) (fp:List Addr),QE aj (X.blk s H scope (compEnvC scope cl C X.env) fp) WF elt te) (hs:∀x,foldedSetIterable iter X.env x=pure x) :
  QE aj X W (.ListComp elt [⟨tg,iter,ifs,0⟩] scope pos) (fu it tgf (own.map (·.2)) tt te):=
 PE.weak (pe_lc (g:=zJ X.K aj js tgf) (tt:=j9 X.K aj WF tt) (te:=tQ X.K aj WF te) hc hN hi (blkOk_by ok) (fun s H C cl fp=>hg s H C cl fp) ht (fun s H C cl fp=>he s H C cl fp) hs) fun σ H Q h=>afN hj σ H Q h
theorem alU{scope:Scope}{own:List (Str×Nat)}{it:IF}{tgf:fK}{js:List Nat}{tt:QT}{te:QF}{ifs:List Expr}(hc:X.calm=true)(hN:X.N.Nodup)(hi:QI aj X W false tg iter it)(ok:blkC X.N X.env.scope scope own=true)(hj:∀j∈js,j∈own.map (·.2))
  (hg:∀(s:Shared) (H:Hp) (C:Addr) (cl:List (Str×Addr)) (fp:List Addr),QG aj (X.blk s H scope (compEnvC scope cl C X.env) fp) tg js tgf)
  (ht:∀(s:Shared) (H:Hp) (C:Addr) (cl:List (Str×Addr)) (fp:List Addr),PTs (X.blk s H scope (compEnvC scope cl C X.env) fp) ifs (j9 X.K aj WF tt))
  (he:∀(s:Shared) (H:Hp) (C:Addr) (cl:List (Str×Addr)) (fp:List Addr),QE aj (X.blk s H scope (compEnvC scope cl C X.env) fp) WF elt te) (hs:∀x,foldedSetIterable iter X.env x=pure x) :
  PE X (.ListComp elt [⟨tg,iter,ifs,0⟩] scope pos) (tFr X.K aj W (Cp it tgf (own.map (·.2)) tt te)):=
 PE.weak (pe_lc (g:=zJ X.K aj js tgf) (tt:=j9 X.K aj WF tt) (te:=tQ X.K aj WF te) hc hN hi (blkOk_by ok) (fun s H C cl fp=>hg s H C cl fp) ht (fun s H C cl fp=>he s H C cl fp) hs) fun σ H Q h=>Yg hj σ H Q h
end
def aZ.sat{α:Type}(o:aZ α)(P:α->Mo->Prop)(E:dJ->Mo->Prop):Prop:=
 match o with
 |.ok a M=>P a M
 |.exc x M=>E x M
 |.bad=>False
def aZ.bind{α β:Type}(o:aZ α)(k:α->Mo->aZ β):aZ β:=
 match o with
 |.ok a M=>k a M
 |.exc x M=>.exc x M
 |.bad=>.bad
@[simp]theorem aZ.xY {α β:Type} (a:α) (M:Mo) (k:α->Mo->aZ β):(aZ.ok a M).bind k=k a M:=rfl
@[simp]theorem aZ.afu {α β:Type} (x:dJ) (M:Mo) (k:α->Mo->aZ β):(aZ.exc x M:aZ α).bind k=.exc x M:=rfl
@[simp]theorem aZ.afj {α β:Type} (k:α->Mo->aZ β):(aZ.bad:aZ α).bind k=.bad:=rfl
theorem aZ.sat.bnd{α β:Type}{o:aZ α}{k:α->Mo->aZ β}{P:β->Mo->Prop}{E:dJ->Mo->Prop}(h:(o.bind k).sat P E):o.sat (fun a M=>(k a M).sat P E) E:=by
 cases o <;> exact h
theorem aZ.sat.mono{α:Type}{o:aZ α}{P P':α->Mo->Prop}{E E':dJ->Mo->Prop}(h:o.sat P E)(hp:∀a M,P a M->P' a M)(he:∀x M,E x M->E' x M):o.sat P' E':=by
 cases o
 ·exact hp _ _ h
 ·exact he _ _ h
 ·exact h
def Out.at{α:Type}(o:Out α)(M:Mo):aZ α:=
 match o with
 |.ok a=>.ok a M
 |.exc x=>.exc x M
 |.bad=>.bad
@[simp]theorem Out.aqj {α:Type} (a:α) (M:Mo):(Out.ok a).at M=.ok a M:=rfl
@[simp]theorem Out.aop {α:Type} (x:dJ) (M:Mo):(Out.exc x:Out α).at M=.exc x M:=rfl
@[simp]theorem Out.ao5 {α:Type} (M:Mo):(Out.bad:Out α).at M=.bad:=rfl
theorem Out.gK{α:Type}{o:Out α}{M:Mo}{P:α->Mo->Prop}{E:dJ->Mo->Prop}(h:(o.at M).sat P E):o.sat (fun a=>P a M) fun x=>E x M:=by
 cases o <;> exact h
abbrev GF:=Mo->Env->aZ Dat
abbrev GT:=Mo->Env->aZ Bool
def rZ.sat(o:rZ)(nx:Env->Mo->Prop)(rt:Dat->Mo->Prop)(bk ct:Env->Mo->Prop)(ex:dJ->Env->Mo->Prop):Prop:=
 match o with
 |.next ρ M=>nx ρ M
 |.ret d M=>rt d M
 |.brk ρ M=>bk ρ M
 |.cont ρ M=>ct ρ M
 |.exc x ρ M=>ex x ρ M
 |.bad=>False
theorem rZ.sat.mono{o:rZ}{nx nx':Env->Mo->Prop}{rt rt':Dat->Mo->Prop}{bk bk' ct ct':Env->Mo->Prop}{ex ex':dJ->Env->Mo->Prop}(h:o.sat nx rt bk ct ex)(h1:∀ρ M,nx ρ M->nx' ρ M)(h2:∀d M,rt d M->rt' d M)(h3:∀ρ M,bk ρ M->bk' ρ M)(h4:∀ρ M,ct ρ M->ct' ρ M)(h5:∀x ρ M,ex x ρ M->ex' x ρ M):o.sat nx' rt' bk' ct' ex':=by
 cases o
 ·exact h1 _ _ h
 ·exact h2 _ _ h
 ·exact h3 _ _ h
 ·exact h4 _ _ h
 ·exact h5 _ _ _ h
 ·exact h
abbrev SF:=Mo->Env->rZ
def Gh.fr(g:Gh):Gh:={ g with Lo:=fun _=>False }
section
variable(K:aqE)(aj:aO)(W:WX)(q:Bool)
def gE(g:Gh)(H:Hp)(σ:L2.St)(ρ:Env)(x:dJ)(M':Mo):Prop:=∀H' g' c dd,Gr q g g' H H'->SInv K aj σ H' g' ρ M'->qd K aj g' H' x c dd->W c dd σ H'
def tE(f:GF):TE:=fun σ H Q=>∃g ρ M,SInv K aj σ H g ρ M/\(f M ρ).sat (fun d M'=>∀v H' g',Gr q g g' H H'->SInv K aj σ H' g' ρ M'->Rep K g' H' v d->Q v H') (gE K aj W q g H σ ρ)
def Ru(f:GT):TT:=fun σ H Q=>∃g ρ M,SInv K aj σ H g ρ M/\(f M ρ).sat (fun b M'=>∀H' g',Gr q g g' H H'->SInv K aj σ H' g' ρ M'->Q b H') (gE K aj W q g H σ ρ)
def sN(k:L2.St->Hp->Prop)(g:Gh)(H:Hp)(ρ':Env)(M':Mo):Prop:=∀σ' H' g',Gr q g g' H H'->SInv K aj σ' H' g' ρ' M'->k σ' H'
def sR(k:VK)(g:Gh)(H:Hp)(d:Dat)(M':Mo):Prop:=∀v H' g',Gr q g g' H H'->Kd g'.fr H'->fU K aj g'.fr H' M'->Rep K g'.fr H' v d->k v H'
def sX(g:Gh)(H:Hp)(x:dJ)(ρ':Env)(M':Mo):Prop:=∀σ' H' g' c dd,Gr q g g' H H'->SInv K aj σ' H' g' ρ' M'->qd K aj g'.fr H' x c dd->W c dd σ' H'
def tS(f:SF):TS:=fun D σ H=>∃g ρ M,SInv K aj σ H g ρ M/\(f M ρ).sat (sN K aj q D.nx g H) (sR K aj q D.rt g H) (sN K aj q D.bk g H) (sN K aj q D.ct g H) (sX K aj W q g H)
end
section
variable{K:aqE}{aj:aO}{W:WX}{q:Bool}{g g1:Gh}{H H1:Hp}{σ:L2.St}{ρ:Env}{M:Mo}
theorem gE.gr{x:dJ}{M':Mo}(r:Gr q g g1 H H1)(h:gE K aj W q g H σ ρ x M'):gE K aj W q g1 H1 σ ρ x M':=fun H' g' c dd r' I z=>h H' g' c dd (r.trans r') I z
theorem sN.gr{k:L2.St->Hp->Prop}{ρ':Env}{M':Mo}(r:Gr q g g1 H H1)(h:sN K aj q k g H ρ' M'):sN K aj q k g1 H1 ρ' M':=fun σ' H' g' r' I=>h σ' H' g' (r.trans r') I
theorem sR.gr{k:VK}{d:Dat}{M':Mo}(r:Gr q g g1 H H1)(h:sR K aj q k g H d M'):sR K aj q k g1 H1 d M':=fun v H' g' r' I z y=>h v H' g' (r.trans r') I z y
theorem sX.gr{x:dJ}{ρ':Env}{M':Mo}(r:Gr q g g1 H H1)(h:sX K aj W q g H x ρ' M'):sX K aj W q g1 H1 x ρ' M':=fun σ' H' g' c dd r' I z=>h σ' H' g' c dd (r.trans r') I z
theorem tE.go{f:GF}{k:Dat->Mo->Prop}{Q:VK}(I:SInv K aj σ H g ρ M)(h:(f M ρ).sat k (gE K aj W q g H σ ρ))(hk:∀d M' v H' g',k d M'->Gr q g g' H H'->SInv K aj σ H' g' ρ M'->Rep K g' H' v d->Q v H'):tE K aj W q f σ H Q:=
 ⟨g,ρ,M,I,h.mono (fun d M' hd v H' g' e I' r=>hk d M' v H' g' hd e I' r) fun _ _ z=>z⟩
theorem Ru.go{f:GT}{k:Bool->Mo->Prop}{Q:Bool->Hp->Prop}(I:SInv K aj σ H g ρ M)(h:(f M ρ).sat k (gE K aj W q g H σ ρ))(hk:∀b M' H' g',k b M'->Gr q g g' H H'->SInv K aj σ H' g' ρ M'->Q b H'):Ru K aj W q f σ H Q:=
 ⟨g,ρ,M,I,h.mono (fun d M' hd H' g' e I'=>hk d M' H' g' hd e I') fun _ _ z=>z⟩
theorem tS.go{f:SF}{D:Ends}(I:SInv K aj σ H1 g1 ρ M)(r:Gr q g g1 H H1)(h:(f M ρ).sat (sN K aj q D.nx g H) (sR K aj q D.rt g H) (sN K aj q D.bk g H) (sN K aj q D.ct g H) (sX K aj W q g H)):tS K aj W q f D σ H1:=
 ⟨g1,ρ,M,I,h.mono (fun _ _ z=>z.gr r) (fun _ _ z=>z.gr r) (fun _ _ z=>z.gr r) (fun _ _ z=>z.gr r) (fun _ _ _ z=>z.gr r)⟩
theorem kJ.less{g':Gh}{fs:List (Str×V)}{gs:List (Str×Dat)}(e:g'.tbl=g.tbl)(n:∀a,g'.A a->g.A a)(h:kJ K g H fs gs):kJ K g' H fs gs:=by
 induction h with
 |nil=>exact .nil
 |cons r _ ih=>exact .cons (r.less e n) ih
theorem qd.less{g':Gh}{x:dJ}{c:Value}{dd:Option Addr}(e:g'.tbl=g.tbl)(n:∀a,g'.A a->g.A a)(h:qd K aj g H x c dd):qd K aj g' H x c dd:=by
 obtain⟨C,h1,h2,h3⟩:=h
 refine⟨C,h1,h2,h3.imp id fun⟨a,fs,e1,e2,e3⟩=>⟨a,fs,e1,e2,e3.less e n⟩⟩
theorem vX(g:Gh):∀a,g.fr.A a->g.A a:=fun a z=>z.elim .inl fun z=>.inr (z.elim .inl fun z=>False.elim z)
theorem Rep.fr{v:V}{d:Dat}(h:Rep K g H v d):Rep K g.fr H v d:=Rep.less (g:=g) (g':=g.fr) rfl (vX g) h
theorem aH.fr{v:List V}{d:List Dat}(h:aH K g H v d):aH K g.fr H v d:=aH.less (g:=g) (g':=g.fr) rfl (vX g) h
theorem qd.fr{x:dJ}{c:Value}{dd:Option Addr}(h:qd K aj g H x c dd):qd K aj g.fr H x c dd:=qd.less (g:=g) (g':=g.fr) rfl (vX g) h
end
def GE(aj:aO)(X:Cx)(W:WX)(q:Bool)(e:Expr)(f:GF):Prop:=PE X e (tE X.K aj W q f)
def Eo(aj:aO)(X:Cx)(W:WX)(q:Bool)(e:Expr)(f:GT):Prop:=PT X e (Ru X.K aj W q f)
def SE(aj:aO)(X:Cx)(W:WX)(q:Bool)(s:Stmt)(f:SF):Prop:=PS X s (tS X.K aj W q f)
def Dm(aj:aO)(X:Cx)(W:WX)(q:Bool)(s:List Stmt)(f:SF):Prop:=PSs X s (tS X.K aj W q f)
theorem PS.weak{X:Cx}{e:Stmt}{t t':TS}(h:PS X e t)(k:∀D σ H,t' D σ H->t D σ H):PS X e t':=⟨fun pins s σ H D I z=>h.run pins s σ H D I (k D σ H z)⟩
theorem PSs.weak{X:Cx}{e:List Stmt}{t t':TS}(h:PSs X e t)(k:∀D σ H,t' D σ H->t D σ H):PSs X e t':=⟨fun pins s σ H D I z=>h.run pins s σ H D I (k D σ H z)⟩
def gOf(f:QF):GF:=fun M ρ=>(f M ρ).at M
def aeH(f:QT):GT:=fun M ρ=>(f M ρ).at M
section
variable{X:Cx}{aj:aO}{W:WX}{q:Bool}{a b e:Expr}{pos:Pos}
theorem afU{f:QF}(h:QE aj X W e f):GE aj X W q e (gOf f):=PE.weak h fun σ H Q ⟨g,ρ,M,I,z⟩=>
 ⟨g,ρ,M,I,(Out.gK z).mono (fun d k v H' e r=>k v H' g (Gr.ex e) (I.ex e) r) fun x k H' c dd e r=>k H' g c dd (Gr.ex e) (I.ex e) r⟩
theorem alk{f:QT}(h:rM aj X W e f):Eo aj X W q e (aeH f):=PT.weak h fun σ H Q ⟨g,ρ,M,I,z⟩=>
 ⟨g,ρ,M,I,(Out.gK z).mono (fun d k H' e=>k H' g (Gr.ex e) (I.ex e)) fun x k H' c dd e r=>k H' g c dd (Gr.ex e) (I.ex e) r⟩
def aR:SF:=fun M ρ=>.next ρ M
def aD(f k:SF):SF:=fun M ρ=>match f M ρ with
 |.next ρ' M'=>k M' ρ'
 |o=>o
theorem ai5:Dm aj X W q [] aR:=PSs.weak pss_nil fun D σ H ⟨g,ρ,M,I,z⟩=>z σ H g .refl I
theorem ajr{s:Stmt}{f:SF}(h:SE aj X W q s f):Dm aj X W q [s] f:=pss_one h
theorem agX{s:Stmt}{ss:List Stmt}{f k:SF}(h:SE aj X W q s f)(hs:Dm aj X W q ss k):Dm aj X W q (s::ss) (aD f k):=by
 refine PSs.weak (pss_cons h hs) fun D σ H ⟨g,ρ,M,I,z⟩=>?_
 refine⟨g,ρ,M,I,?_⟩
 unfold aD at z
 cases hf:f M ρ with
 |next ρ' M'=>
  rw[hf]at z
  exact fun σ' H' g' r I'=>tS.go I' r z
 |ret d M'=>rw[hf]at z;exact z
 |brk ρ' M'=>rw[hf]at z;exact z
 |cont ρ' M'=>rw[hf]at z;exact z
 |exc x ρ' M'=>rw[hf]at z;exact z
 |bad=>rw[hf]at z;exact z
def aZ.then{α:Type}(o:aZ α)(ρ:Env)(k:α->Mo->rZ):rZ:=
 match o with
 |.ok a M=>k a M
 |.exc x M=>.exc x ρ M
 |.bad=>.bad
@[simp]theorem aZ.anu {α:Type} (a:α) (M:Mo) (ρ:Env) (k:α->Mo->rZ):(aZ.ok a M).then ρ k=k a M:=rfl
@[simp]theorem aZ.amU {α:Type} (x:dJ) (M:Mo) (ρ:Env) (k:α->Mo->rZ):(aZ.exc x M:aZ α).then ρ k=.exc x ρ M:=rfl
@[simp]theorem aZ.amO {α:Type} (ρ:Env) (k:α->Mo->rZ):(aZ.bad:aZ α).then ρ k=.bad:=rfl
theorem cW{α:Type}{K:aqE}{g:Gh}{H:Hp}{σ:L2.St}{ρ:Env}{o:aZ α}{k:α->Mo->rZ}{nx bk ct:Env->Mo->Prop}{rt:Dat->Mo->Prop}(h:(o.then ρ k).sat nx rt bk ct (sX K aj W q g H)):o.sat (fun a M=>(k a M).sat nx rt bk ct (sX K aj W q g H)) (gE K aj W q g H σ ρ):=by
 cases o with
 |ok a M=>exact h
 |exc x M=>exact fun H' g' c dd r I z=>h σ H' g' c dd r I z.fr
 |bad=>exact h
def aW(tg:fK)(f:GF):SF:=fun M ρ=>(f M ρ).then ρ fun d M'=>match tg d ρ with
 |some ρ'=>.next ρ' M'
 |none=>.bad
theorem XD{tg:Expr}{js:List Nat}{tf:fK}{f:GF}(he:GE aj X W q e f)(hg:QG aj X tg js tf)(hs:swapsWithSole [tg] e pos.line X.env=pure false)(hw:swappedStores [tg] e X.env=pure none)(h1:(assignEach [tg] X.env).map (·.2)=[assign tg X.env]):SE aj X W q (.Assign [tg] e pos) (aW tf f):=by
 refine PS.weak (ps_asg he hg hs hw h1) fun D σ H ⟨g,ρ,M,I,z⟩=>?_
 refine tE.go I (cW (σ:=σ) z) fun d M' v H' g' k r I' rv=>?_
 split at k
 ·next ρ' e'=>exact⟨g',ρ,M',d,ρ',I',rv,e',fun vs I2=>k _ H' g' r I2⟩
 ·exact False.elim k
def cH(f:GF):SF:=fun M ρ=>(f M ρ).then ρ fun _ M'=>.next ρ M'
theorem Sv{f:GF}(he:GE aj X W q e f)(hs:swapsWith e none pos.line X.env=pure false):SE aj X W q (.Expr e pos) (cH f):=by
 refine PS.weak (ps_expr he hs) fun D σ H ⟨g,ρ,M,I,z⟩=>?_
 exact tE.go I (cW (σ:=σ) z) fun d M' v H' g' k r I' rv=>k σ H' g' r I'
end
def Q9:Cell->Cell
 |.mut xs=>.dat (.list xs)
 |c=>c
def qT(ρ:Env):Env:=ρ.map fun o=>o.map Q9
section
variable{K:aqE}{aj:aO}{W:WX}{q:Bool}{g:Gh}{H:Hp}{σ:L2.St}{ρ:Env}{M:Mo}
theorem ju.less{g':Gh}{l:Addr}(e:g'.tbl=g.tbl)(n:∀a,g'.A a->g.A a):∀{b:Bool} {kvs:List (Dat×Dat)},ju K aj g H l b kvs->ju K aj g' H l b kvs
 |false,_,⟨kv,h1,h2,h3⟩=>⟨kv,h1,h2,h3.less e n⟩
 |true,_,⟨o,xs,vs,h1,h2,h3,h4,h5,h6⟩=>⟨o,xs,vs,h1,h2,h3,h4.less e n,h5,h6.less e n⟩
theorem dR.less{g':Gh}{h:Nat}{f:Str}{v:V}(e:g'.tbl=g.tbl)(e2:g'.ow=g.ow)(n:∀a,g'.A a->g.A a):∀{fl:iW},dR K aj g H h f v fl->dR K aj g' H h f v fl
 |.dat _,z=>Rep.less e n z
 |.lst _ _,⟨l,us,h1,h2,h3,h4,h5⟩=>⟨l,us,h1,h2,by rw[e2];exact h3,h4.less e n,by rw[e];exact h5⟩
 |.dic _ _,⟨l,h1,h2,h3⟩=>⟨l,h1,by rw[e2];exact h2,h3.less e n⟩
theorem cO.less{g':Gh}{h:Nat}(e:g'.tbl=g.tbl)(e2:g'.ow=g.ow)(n:∀a,g'.A a->g.A a):∀{fs:List (Str×V)} {gs:List (Str×iW)},cO K aj g H h fs gs->cO K aj g' H h fs gs
 |_,_,.nil=>.nil
 |_,_,.cons z t=>.cons (dR.less e e2 n z) (cO.less e e2 n t)
theorem fU.less{g':Gh}(e:g'.tbl=g.tbl)(e2:g'.ow=g.ow)(n:∀a,g'.A a->g.A a)(w:fU K aj g H M):fU K aj g' H M where
 len:=by rw[e];exact w.len
 inj:=by rw[e];exact w.inj
 ins:=fun h a i ha hi hc=>by
  rw[e]at ha
  obtain⟨C,dx,fs,c1,c2,c3⟩:=w.ins h a i ha hi hc
  exact⟨C,dx,fs,c1,c2,c3.less e e2 n⟩
 nd:=w.nd
 fd:=w.fd
 tw:=by rw[e,e2];exact w.tw
 dm:=w.dm
 nc:=w.nc
theorem Ox{i:Nat}{c:Cell}(h:(qT ρ)[i]?=some (some c)):∃c',ρ[i]?=some (some c')/\c=Q9 c':=by
 unfold qT at h
 rw[aqQ]at h
 cases hr:ρ[i]? with
 |none=>rw[hr]at h;cases h
 |some o=>
  rw[hr]at h
  cases o with
  |none=>cases h
  |some c'=>
   cases h
   exact⟨c',rfl,rfl⟩
theorem SInv.qT(I:SInv K aj σ H g ρ M):SInv K aj σ H g.fr (qT ρ) M where
 kd:=⟨fun a z=>I.kd.ob a (vX g a z),fun a z=>False.elim z,fun a z=>⟨(I.kd.lc a z).1,fun y=>y⟩⟩
 wok:=fU.less (g:=g) (g':=g.fr) rfl rfl (vX g) I.wok
 len:=by unfold Rf.qT;rw[aqO];exact I.len
 dat:=fun i d h=>by
  obtain⟨c,h1,h2⟩:=Ox h
  cases c with
  |dat d'=>
   cases h2
   obtain⟨v,e1,e2⟩:=I.dat i _ h1
   exact⟨v,e1,e2.fr⟩
  | «mut» xs=>
   cases h2
   obtain⟨l,us,e1,e2,e3,e4⟩:=I.own i _ h1
   refine⟨_,e1,.lst (.inl ⟨.inl e2,fun z=>?_⟩) e4.fr⟩
   rcases z with z|z|z
   ·exact I.kd.lo l e3 z
   ·exact(I.kd.lc l z).2 e3
   ·exact z
 own:=fun i xs h=>by
  obtain⟨c,h1,h2⟩:=Ox h
  cases c <;> cases h2
 sep:=fun i j xs ys l ne h1=>by
  obtain⟨c,h1,h2⟩:=Ox h1
  cases c <;> cases h2
end
section
variable{K:aqE}{aj:aO}{W:WX}{q:Bool}{g g':Gh}{H H':Hp}{σ:L2.St}{ρ:Env}{M:Mo}
theorem Kd.fr(k:Kd g H):Kd g.fr H:=⟨fun a z=>k.ob a (vX g a z),fun a z=>False.elim z,fun a z=>⟨(k.lc a z).1,fun y=>y⟩⟩
theorem fU.fr(w:fU K aj g H M):fU K aj g.fr H M:=fU.less (g:=g) (g':=g.fr) rfl rfl (vX g) w
theorem bF{α:Type}{l:List (Option α)}{j i:Nat}{c:α}{o:Option α}(h:(l.set j o)[i]?=some (some c)):(j=i/\o=some c/\j < l.length)∨(j≠i/\l[i]?=some (some c)):=by
 by_cases z:j=i
 ·subst z
  have hj:j < l.length:=by
   have:=(aqG.mp h).1
   rw[aq4]at this
   exact this
  rw[aqX hj]at h
  exact .inl ⟨rfl,aq0 h,hj⟩
 ·rw[aqN z]at h
  exact .inr ⟨z,h⟩
theorem SInv.akh{j:Nat}{l:Addr}{us:List V}{xs:List Dat}(I:SInv K aj σ H g ρ M)(n:H l=none)(e:Ex H H')(hl:H' l=some (.lst us))(r:aH K (g.add l) H' us xs):SInv K aj (σ.set j (some (.ref l))) H' (g.add l) (ρ.set j (some (.mut xs))) M:=by
 have I1:=I.add n e hl trivial
 have nl:∀(i:Nat) (ys:List Dat),ρ[i]?=some (some (.mut ys))->σ[i]?≠some (some (.ref l)):=fun i ys h z=>by
  obtain⟨l',us',h1,h2,_⟩:=I.own i ys h
  rw[z]at h1
  cases h1
  rw[n]at h2
  cases h2
 refine⟨I1.kd,I1.wok,by rw[aq4,aq4];exact I.len,fun i d h=>?_,fun i ys h=>?_,fun i k ys zs a ne h1 h2 h3 h4=>?_⟩
 ·rcases bF h with⟨_,h,_⟩|⟨ne,h⟩
  ·cases h
  ·rw[aqN ne]
   exact I1.dat i d h
 ·rcases bF h with⟨rfl,h,hj⟩|⟨ne,h⟩
  ·cases h
   exact⟨l,us,by rw[aqX (by rw[I.len];exact hj)],hl,.inr rfl,r⟩
  ·rw[aqN ne]
   exact I1.own i ys h
 ·rcases bF h1 with⟨rfl,h1,hj⟩|⟨n1,h1⟩
  ·rcases bF h2 with⟨rfl,h2,_⟩|⟨n2,h2⟩
   ·exact ne rfl
   ·rw[aqX (by rw[I.len];exact hj)]at h3
    cases h3
    rw[aqN n2]at h4
    exact nl k zs h2 h4
  ·rcases bF h2 with⟨rfl,h2,hj⟩|⟨n2,h2⟩
   ·rw[aqX (by rw[I.len];exact hj)]at h4
    cases h4
    rw[aqN n1]at h3
    exact nl i ys h1 h3
   ·rw[aqN n1]at h3
    rw[aqN n2]at h4
    exact I.sep i k ys zs a ne h1 h2 h3 h4
theorem dR.loc{l:Addr}{us us':List V}{h:Nat}{f:Str}{v:V}(k:Kd g H)(hl:H l=some (.lst us))(lo:g.Lo l):∀{fl:iW},dR K aj g H h f v fl->dR K aj g (upd H l (.lst us')) h f v fl:=fun {fl} z=>by
 have r:Gr true g g H (upd H l (.lst us')):=Gr.upd k hl (.inr lo)
 cases fl with
 |dat d=>exact Rep.gr r k z
 |lst n xs=>
  obtain⟨a,ws,h1,h2,h3,h4,h5⟩:=z
  exact⟨a,ws,h1,by rw[upd_ne (fun z=>by subst z;exact k.lo _ lo (.inr (by rw[h3];exact fun z=>nomatch z)))];exact h2,h3,h4.gr r k,h5⟩
 |dic n kvs=>
  obtain⟨a,h1,h2,h3⟩:=z
  have na:a≠l:=fun z=>by subst z;exact k.lo _ lo (.inr (by rw[h2];exact fun z=>nomatch z))
  refine⟨a,h1,h2,?_⟩
  cases n with
  |false=>
   obtain⟨kv,h3,h4,h5⟩:=h3
   exact⟨kv,by rw[upd_ne na];exact h3,h4,h5.gr r k⟩
  |true=>
   obtain⟨o,xs,vs,h3,h4,h5,h6,h7,h8⟩:=h3
   exact⟨o,xs,vs,by rw[upd_ne na];exact h3,h4,h5,h6.gr r k,h7,h8.gr r k⟩
theorem cO.loc{l:Addr}{us us':List V}{h:Nat}(k:Kd g H)(hl:H l=some (.lst us))(lo:g.Lo l):∀{fs:List (Str×V)} {gs:List (Str×iW)},cO K aj g H h fs gs->cO K aj g (upd H l (.lst us')) h fs gs
 |_,_,.nil=>.nil
 |_,_,.cons z t=>.cons (dR.loc k hl lo z) (cO.loc k hl lo t)
theorem fU.loc{l:Addr}{us us':List V}(k:Kd g H)(hl:H l=some (.lst us))(lo:g.Lo l)(w:fU K aj g H M):fU K aj g (upd H l (.lst us')) M where
 len:=w.len
 inj:=w.inj
 ins:=fun h a i ha hi hc=>by
  obtain⟨C,dx,fs,c1,c2,c3⟩:=w.ins h a i ha hi hc
  exact⟨C,dx,fs,c1,by rw[upd_ne (fun z=>by subst z;exact k.lo _ lo (.inl (aqM ha)))];exact c2,c3.loc k hl lo⟩
 nd:=w.nd
 fd:=w.fd
 tw:=w.tw
 dm:=w.dm
 nc:=w.nc
theorem SInv.change{j:Nat}{xs ys:List Dat}(I:SInv K aj σ H g ρ M)(hj:ρ[j]?=some (some (.mut xs))):∃l us,σ[j]?=some (some (.ref l))/\H l=some (.lst us)/\g.Lo l/\aH K g H us xs/\∀us',aH K g H us' ys->SInv K aj σ (upd H l (.lst us')) g (ρ.set j (some (.mut ys))) M:=by
 obtain⟨l,us,h1,h2,h3,h4⟩:=I.own j xs hj
 refine⟨l,us,h1,h2,h3,h4,fun us' r=>?_⟩
 have gr:Gr true g g H (upd H l (.lst us')):=Gr.upd I.kd h2 (.inr h3)
 refine⟨I.kd.upd trivial,I.wok.loc I.kd h2 h3,by rw[aq4];exact I.len,fun i d h=>?_,fun i zs h=>?_,fun i k zs ws a ne e1 e2 e3 e4=>?_⟩
 ·rcases bF h with⟨_,h,_⟩|⟨ne,h⟩
  ·cases h
  ·obtain⟨v,e1,e2⟩:=I.dat i d h
   exact⟨v,e1,e2.gr gr I.kd⟩
 ·rcases bF h with⟨rfl,h,_⟩|⟨ne,h⟩
  ·cases h
   exact⟨l,us',h1,upd_same,h3,r.gr gr I.kd⟩
  ·obtain⟨l',ws,e1,e2,e3,e4⟩:=I.own i zs h
   have nl:l'≠l:=fun z=>by
    subst z
    exact I.sep i j zs xs l' (Ne.symm ne) h hj e1 h1
   exact⟨l',ws,e1,by rw[upd_ne nl];exact e2,e3,e4.gr gr I.kd⟩
 ·have k1:∃xs,ρ[i]?=some (some (.mut xs)):=by
   rcases bF e1 with⟨rfl,_,_⟩|⟨_,h⟩
   ·exact⟨xs,hj⟩
   ·exact⟨zs,h⟩
  have k2:∃xs,ρ[k]?=some (some (.mut xs)):=by
   rcases bF e2 with⟨rfl,_,_⟩|⟨_,h⟩
   ·exact⟨xs,hj⟩
   ·exact⟨ws,h⟩
  obtain⟨x1,k1⟩:=k1
  obtain⟨x2,k2⟩:=k2
  exact I.sep i k x1 x2 a ne k1 k2 e3 e4
end
section
variable{X:Cx}{aj:aO}{W:WX}{q:Bool}{a b e:Expr}{pos:Pos}
def aQ(f:QF):SF:=fun M ρ=>((f M (qT ρ)).at M).then ρ fun d M'=>.ret d M'
def gY(f:GF):SF:=fun M ρ=>(f M ρ).then ρ fun d M'=>.ret d M'
theorem aj4{f:QF}(he:QE aj X W e f):SE aj X W q (.Return (some e) pos) (aQ f):=by
 refine PS.weak (ps_ret he) fun D σ H ⟨g,ρ,M,I,z⟩=>?_
 refine⟨g.fr,qT ρ,M,I.qT,?_⟩
 unfold aQ at z
 cases hf:f M (qT ρ) with
 |ok d=>
  rw[hf]at z
  exact fun v H' e r=>z v H' g (Gr.ex e) (I.ex e).kd.fr (I.ex e).wok.fr r
 |exc x=>
  rw[hf]at z
  exact fun H' c dd e r=>z σ H' g c dd (Gr.ex e) (I.ex e) r
 |bad=>rw[hf]at z;exact False.elim z
theorem ahz{f:GF}(he:GE aj X W q e f):SE aj X W q (.Return (some e) pos) (gY f):=by
 refine PS.weak (ps_ret he) fun D σ H ⟨g,ρ,M,I,z⟩=>?_
 exact tE.go I (cW (σ:=σ) z) fun d M' v H' g' k r I' rv=>k v H' g' r I'.kd.fr I'.wok.fr rv.fr
def bO(t:QT)(f k:SF):SF:=fun M ρ=>((t M (qT ρ)).at M).then ρ fun c M'=>if c=true then f M' ρ else k M' ρ
def ace(t:GT)(f k:SF):SF:=fun M ρ=>(t M ρ).then ρ fun c M'=>if c=true then f M' ρ else k M' ρ
theorem ak8{c:Expr}{s1 s2:List Stmt}{t:QT}{f k:SF}(hc:rM aj X W c t)(h1:Dm aj X W q s1 f)(h2:Dm aj X W q s2 k):SE aj X W q (.If c s1 s2 pos) (bO t f k):=by
 refine PS.weak (ps_if hc h1 h2) fun D σ H ⟨g,ρ,M,I,z⟩=>?_
 refine⟨g.fr,qT ρ,M,I.qT,?_⟩
 unfold bO at z
 cases hf:t M (qT ρ) with
 |ok d=>
  rw[hf]at z
  intro H' e
  cases d with
  |true=>exact tS.go (I.ex e) (Gr.ex e) z
  |false=>exact tS.go (I.ex e) (Gr.ex e) z
 |exc x=>
  rw[hf]at z
  exact fun H' c dd e r=>z σ H' g c dd (Gr.ex e) (I.ex e) r
 |bad=>rw[hf]at z;exact False.elim z
theorem akg{c:Expr}{s1 s2:List Stmt}{t:GT}{f k:SF}(hc:Eo aj X W q c t)(h1:Dm aj X W q s1 f)(h2:Dm aj X W q s2 k):SE aj X W q (.If c s1 s2 pos) (ace t f k):=by
 refine PS.weak (ps_if hc h1 h2) fun D σ H ⟨g,ρ,M,I,z⟩=>?_
 refine Ru.go I (cW (σ:=σ) z) fun b M' H' g' kk r I'=>?_
 cases b with
 |true=>exact tS.go I' r kk
 |false=>exact tS.go I' r kk
def gQ(tg:fK)(body:SF):List Dat->Mo->Env->rZ
 |[],M,ρ=>.next ρ M
 |d::ds,M,ρ=>match tg d ρ with
  |none=>.bad
  |some ρ1=>match body M ρ1 with
   |.next ρ2 M2=>gQ tg body ds M2 ρ2
   |.cont ρ2 M2=>gQ tg body ds M2 ρ2
   |.brk ρ2 M2=>.next ρ2 M2
   |.ret d M2=>.ret d M2
   |.exc x ρ2 M2=>.exc x ρ2 M2
   |.bad=>.bad
def sW(it:IF)(tg:fK)(body:SF):SF:=fun M ρ=>((it M ρ).at M).then ρ fun ds M'=>gQ tg body ds M' ρ
theorem aiG{tg iter:Expr}{body:List Stmt}{it:IF}{js:List Nat}{tf:fK}{f:SF}(hp:PassesOwn (model X.prog X.w) X.A X.env X.xe)(hc:X.calm=true)(hi:QI aj X W true tg iter it)(hg:QG aj X tg js tf)(hb:Dm aj X W q body f)(hs:∀x,foldedSetIterable iter X.env x=pure x) :
  SE aj X W q (.For tg iter body [] pos) (sW it tf f):=by
 refine PS.weak (ps_for hp hc hi hg hb hs) fun D σ H ⟨g,ρ,M,I,z⟩=>?_
 refine⟨g,ρ,M,I,?_⟩
 unfold sW at z
 cases hf:it M ρ with
 |exc x=>
  rw[hf]at z
  exact fun H' c dd e r=>z σ H' g c dd (Gr.ex e) (I.ex e) r.fr
 |bad=>rw[hf]at z;exact False.elim z
 |ok ds=>
  rw[hf]at z
  intro J C H1 e1 w c1 firm
  have firm:=firm rfl
  have z:(gQ tf f ds M ρ).sat (sN X.K aj q D.nx g H) (sR X.K aj q D.rt g H) (sN X.K aj q D.bk g H) (sN X.K aj q D.ct g H) (sX X.K aj W q g H):=z
  let Pv:Nat->L2.St->Hp->Prop:=fun i σi Hi=>i<=ds.length/\∃gi ρi Mi,Gr q g gi H Hi/\SInv X.K aj σi Hi gi ρi Mi/\C gi Hi/\(gQ tf f (ds.drop i) Mi ρi).sat (sN X.K aj q D.nx g H) (sR X.K aj q D.rt g H) (sN X.K aj q D.bk g H) (sN X.K aj q D.ct g H) (sX X.K aj W q g H)
  refine⟨fun i m σi Hi=>m=ds.length - i/\Pv i σi Hi,⟨ds.length,rfl,arn _,g,ρ,M,Gr.ex e1,I.ex e1,c1,by rw[arX];exact z⟩,?_⟩
  rintro i m σi Hi ⟨rfl,hi,gi,ρi,Mi,ri,Ii,Ci,zi⟩
  by_cases hlt:i < ds.length
  ·refine .inr ⟨w.go _ i Hi Ci hlt,Pv (i+1),fun σ' H' p=>⟨ds.length - (i+1),by omega,rfl,p⟩,fun x H' y=>?_⟩
   have hd:ds[i]?=some ds[i]:=aqH hlt
   obtain⟨e2,rx⟩:=w.yld _ i Hi x H' _ Ii.kd Ci hd y
   rw[arz hlt,gQ]at zi
   split at zi
   ·exact False.elim zi
   ·next ρ1 he=>
    have I2:=Ii.ex e2
    refine⟨gi,ρi,Mi,_,ρ1,I2,rx,he,fun vs I3=>⟨gi,ρ1,Mi,I3,?_⟩⟩
    have r2:=ri.trans (Gr.ex e2)
    cases hb':f Mi ρ1 with
    |next ρ2 M2=>
     rw[hb']at zi
     exact fun σ' H2 g2 r I'=>⟨hlt,g2,ρ2,M2,r2.trans r,I',firm q gi g2 H' H2 I2.kd (w.ex _ _ _ Ii.kd Ci e2) r,zi⟩
    |cont ρ2 M2=>
     rw[hb']at zi
     exact fun σ' H2 g2 r I'=>⟨hlt,g2,ρ2,M2,r2.trans r,I',firm q gi g2 H' H2 I2.kd (w.ex _ _ _ Ii.kd Ci e2) r,zi⟩
    |brk ρ2 M2=>
     rw[hb']at zi
     exact sN.gr r2 zi
    |ret d M2=>
     rw[hb']at zi
     exact sR.gr r2 zi
    |exc x ρ2 M2=>
     rw[hb']at zi
     exact sX.gr r2 zi
    |bad=>rw[hb']at zi;exact False.elim zi
  ·have e:i=ds.length:=by omega
   refine .inl ⟨w.stop _ i Hi Ci e,?_⟩
   rw[e,arE]at zi
   exact zi σi Hi gi ri Ii
def O5(j:Nat)(f:QF):SF:=fun M ρ=>match ρ[j]? with
 |some (some (.dat (.int i)))=>((f M ρ).at M).then ρ fun d M'=>match d with
  |.int k=>.next (ρ.set j (some (.dat (.int (i+k))))) M'
  |_=>.bad
 |_=>.bad
theorem ajD{j:Nat}{x:Str}{f:QF}{pos':Pos}(hN:X.N.Nodup)(hi:X.N[j]?=some x)(hx:Loc X.env.scope x)(hf:X.fn x=true∨X.env.scope.names.lookup x=some .local)(he:QE aj X W e f):SE aj X W q (.AugAssign (.Name x pos') .Add e pos) (O5 j f):=by
 refine PS.weak (ps_aug hN hi hx he ip_add hf) fun D σ H ⟨g,ρ,M,I,z⟩=>?_
 unfold O5 at z
 split at z
 ·next i hj=>
  obtain⟨v,h1,h2⟩:=I.dat j _ hj
  cases h2
  refine⟨.int i,h1,⟨g,ρ,M,I,?_⟩⟩
  cases hf':f M ρ with
  |exc x=>rw[hf']at z;exact fun H' c dd e r=>z σ H' g c dd (Gr.ex e) (I.ex e) r.fr
  |bad=>rw[hf']at z;exact False.elim z
  |ok d=>
   rw[hf']at z
   intro u H' e r
   cases d with
   |int k=>
    cases r
    exact⟨i,k,rfl,rfl,z _ H' g (Gr.ex e) ((I.ex e).set (.int _))⟩
   |_=>exact False.elim z
 ·exact False.elim z
def FE(aj:aO)(X:Cx)(W:WX)(e:Expr)(f:IF):Prop:=PE X e (tFr X.K aj W f)
def Hu(j:Nat)(f:IF):SF:=fun M ρ=>((f M ρ).at M).then ρ fun xs M'=>.next (ρ.set j (some (.mut xs))) M'
theorem adh{j:Nat}{f:IF}(D:Ends)(σ:L2.St)(H:Hp)(h:tS X.K aj W q (Hu j f) D σ H):tAsg (tFr X.K aj W f) (gName j) D σ H:=by
 obtain⟨g,ρ,M,I,z⟩:=h
 refine⟨g,ρ,M,I,?_⟩
 unfold Hu at z
 cases hf:f M ρ with
 |exc x=>rw[hf]at z;exact fun H' c dd e r=>z σ H' g c dd (Gr.ex e) (I.ex e) r.fr
 |bad=>rw[hf]at z;exact False.elim z
 |ok xs=>
  rw[hf]at z
  intro l us H' n e hl r
  have gr:Gr true g (g.add l) H H':=Gh.Et n e
  refine z _ H' (g.add l) ?_ (I.akh n e hl r)
  cases q with
  |true=>exact gr
  |false=>exact gr.loud
theorem adu{j:Nat}{x:Str}{f:IF}{pos':Pos}(hN:X.N.Nodup)(hi:X.N[j]?=some x)(hx:Loc X.env.scope x)(hf:X.fn x=true∨X.env.scope.names.lookup x=some .local)(he:FE aj X W e f)(hs:swapsWith e (some (.Name x pos')) pos.line X.env=pure false):SE aj X W q (.Assign [.Name x pos'] e pos) (Hu j f):=
 PS.weak (ps_set hN hi hx he hs hf) fun D σ H h=>adh D σ H h
def Rz(f:QA):IF:=fun M ρ=>(f M ρ).bind fun xs=>Out.when (decide (xs.length<=100000)) (.ok xs)
theorem aeY{K:aqE}{g:Gh}{H:Hp}{l:Addr}{vs:List V}{ds:List Dat}(k:Kd g H)(n:H l=none)(r:aH K g H vs ds){o:HO}:aH K (g.add l) (upd H l o) vs ds:=r.gr (Gh.Et n (Ex.new n)) k
theorem ajq{es:List Expr}{fr:QA}(h:Dy aj X W es fr):FE aj X W (.List es pos) (Rz fr):=
 PE.weak (pe_lst h) fun σ H Q ⟨g,ρ,M,I,h⟩=>by
  refine M6.go I h.bnd fun ds vs H1 h1 e1 r1=>?_
  obtain⟨hz,h1⟩:=h1.pU
  have hl:vs.length<=100000:=by
   rw[r1.length]
   exact of_decide_eq_true hz
  exact⟨sz_of hl,fun p np=>h1 p vs _ (BW e1 p np) (e1.trans (Ex.new np)) upd_same (aeY (I.kd.ex e1) np r1)⟩
def W9:Dat->Out (List Dat)
 |.list ds=>.ok ds
 |.tuple ds=>.ok ds
 |_=>.bad
def afv(f:QF):IF:=fun M ρ=>(f M ρ).bind W9
def baseOk:Expr->Bool
 |.Call (.Name _ _) _ _ _=>false
 |_=>true
theorem lX{o:Expr}{m:Str}{env:PySem.Env}{w:Sem Value}(h:baseOk o=true):attributeBase o m env w=w:=by
 cases o with
 | Call f as ks p=>cases f <;> first | rfl | cases h
 |_=>rfl
theorem X7{env:PySem.Env}{pos:Pos}:∀(es:List Expr),es.all nst=true->(backTo pos (starEach es env)).all (fun x=>!x.1)=true
 |[],_=>by with_unfolding_all rfl
 |a::es,h=>by
  rw[arb,aqF]at h
  rw[cI h.1]
  have ih:=X7 (env:=env) (pos:=pos) es h.2
  unfold backTo at ih ⊢
  rw[aqI,arb,ih]
  rfl
theorem few{env:PySem.Env}{pos:Pos}{es:List Expr}(h:es.all nst=true)(hl:es.length < 30):((backTo pos (starEach es env)).all (fun x=>!x.1)&&(backToKw pos (keywordEach [] env)).all (fun x=>x.1.isSome)&&decide (es.length+([]:List Keyword).length+(if ([]:List Keyword).isEmpty then 0 else 1) < 30))=true:=by
 rw[X7 es h]
 have:(backToKw pos (keywordEach [] env)).all (fun x=>x.1.isSome)=true:=by with_unfolding_all rfl
 rw[this]
 simpa using hl
def Og(j:Nat)(f:QF):SF:=fun M ρ=>match ρ[j]? with
 |some (some (.mut xs))=>((f M ρ).at M).then ρ fun d M'=>if xs.length < 100000 then .next (ρ.set j (some (.mut (xs++[d])))) M' else .bad
 |_=>.bad
theorem aiv{j:Nat}{x:Str}{f:QF}{p apos:Pos}{epos:Pos}(hN:X.N[j]?=some x)(hv:Vis X.env.scope x)(hd:(x==("__debug__" : Str))=false)(hcd:(x==("__classdict__" : Str))=false)(he:QE aj X W e f)(hs:nst e=true)
  (hl:(apos.endLine==pos.line)=true):SE aj X W q (.Expr (.Call (.Attribute (.Name x p) "append" apos) [e] [] pos) epos) (Og j f):=by
 have h0:=pe_var (X:=X) (pos:=p) hN hv hd hcd
 have h1:=pa_cons he pa_nil (cI hs [])
 have key:=pe_bm (X:=X) (cpos:=pos) (apos:=apos) PySem.F.plainAttrs_list PySem.F.slot_list_append PySem.F.type_list_append mt_append h0 h1 (lX rfl) (few (by simp[hs]) (by simp)) hl (cI hs []) (by with_unfolding_all rfl)
 refine PS.weak (ps_expr key (by with_unfolding_all rfl)) fun D σ H ⟨g,ρ,M,I,z⟩=>?_
 unfold Og at z
 split at z
 ·next xs hj=>
  obtain⟨l,us,e1,e2,e3,e4⟩:=I.own j xs hj
  refine⟨.ref l,e1,.inl ⟨rfl,us,sq_of e2⟩,⟨g,ρ,M,I,?_⟩⟩
  cases hf:f M ρ with
  |exc x=>rw[hf]at z;exact fun H' c dd e r=>z σ H' g c dd (Gr.ex e) (I.ex e) r.fr
  |bad=>rw[hf]at z;exact False.elim z
  |ok d=>
   rw[hf]at z
   intro v H' e r
   have z:(if xs.length < 100000 then rZ.next (ρ.set j (some (.mut (xs++[d])))) M else .bad).sat (sN X.K aj q D.nx g H) (sR X.K aj q D.rt g H) (sN X.K aj q D.bk g H) (sN X.K aj q D.ct g H) (sX X.K aj W q g H):=z
   split at z
   ·next hlen=>
    have I1:=I.ex e
    obtain⟨l',us',f1,f2,f3,f4,f5⟩:=I1.change (ys:=xs++[d]) hj
    rw[e1]at f1
    cases f1
    rw[e _ _ e2]at f2
    cases f2
    refine⟨l,us,v,rfl,rfl,e _ _ e2,sz_lt (by rw[e4.length];exact hlen),?_⟩
    exact z _ _ g ((Gr.ex e).trans (Gr.upd I1.kd (e _ _ e2) (.inr f3))) (f5 _ (f4.append (.cons r .nil)))
   ·exact False.elim z
 ·exact False.elim z
def ak4(j:Nat)(fi f:QF):SF:=fun M ρ=>match ρ[j]? with
 |some (some (.mut xs))=>((f M ρ).at M).then ρ fun d M'=>((fi M' ρ).at M').then ρ fun i M2=>match i with
  |.int k=>match ixN xs.length k with
   |some n=>.next (ρ.set j (some (.mut (xs.set n d)))) M2
   |none=>.bad
  |_=>.bad
 |_=>.bad
end
structure Gc(g g':Gh)(H H':Hp):Prop where
 keep:∀a o,H a=some o->¬g.W a->H' a=some o
 dom:∀a,H' a=none->H a=none
 tbl:∃more,g'.tbl=g.tbl++more
 W:∀a,g.W a->g'.W a
 nW:∀a,g'.W a->g.W a∨H a=none
 Lc:g'.Lc=g.Lc
 Lo:g'.Lo=g.Lo
def QJ(K:aqE)(aj:aO)(n:Nat)(m:Mo->List Dat->Out Dat):Sp:=fun vs H Q E=>vs.length=n/\∃g M ds,Kd g H/\fU K aj g H M/\aH K g H vs ds/\
 (m M ds).sat (fun d=>∀v H',Ex H H'->Rep K g H' v d->Q v H') fun x=>∀H' c dd,Ex H H'->qd K aj g H' x c dd->E c dd H'
def Gi(K:aqE)(aj:aO)(n:Nat)(m:Mo->List Dat->aZ Dat):Sp:=fun vs H Q E=>vs.length=n/\∃g M ds,Kd g H/\fU K aj g H M/\aH K g H vs ds/\
 (m M ds).sat (fun d M'=>∀v H' g',Gc g g' H H'->Kd g' H'->fU K aj g' H' M'->Rep K g' H' v d->Q v H') fun x M'=>∀H' g' c dd,Gc g g' H H'->Kd g' H'->fU K aj g' H' M'->qd K aj g' H' x c dd->E c dd H'
section
variable{K:aqE}{aj:aO}{W:WX}{g g':Gh}{H H':Hp}{σ:L2.St}{ρ:Env}{M M':Mo}
theorem Gc.gr(r:Gc g g' H H'):Gr false g g' H H':=⟨fun a o h n _=>r.keep a o h n,(fun z=>nomatch z),r.dom,r.tbl,r.W,r.nW,(fun z=>nomatch z),r.Lc,fun a h=>by rw[r.Lo];exact h,fun a h=>by rw[r.Lo]at h;exact .inl h⟩
theorem SInv.call(r:Gc g g' H H')(k':Kd g' H')(w':fU K aj g' H' M')(I:SInv K aj σ H g ρ M):SInv K aj σ H' g' ρ M' where
 kd:=k'
 wok:=w'
 len:=I.len
 dat:=fun i d h=>by
  obtain⟨v,h1,h2⟩:=I.dat i d h
  exact⟨v,h1,h2.gr r.gr I.kd⟩
 own:=fun i xs h=>by
  obtain⟨l,us,h1,h2,h3,h4⟩:=I.own i xs h
  exact⟨l,us,h1,r.keep _ _ h2 (I.kd.lo l h3),by rw[r.Lo];exact h3,h4.gr r.gr I.kd⟩
 sep:=I.sep
def Gh.in(g:Gh):Gh:={ g with Lc:=fun a=>g.Lc a∨g.Lo a,Lo:=fun _=>False }
theorem Yk(g:Gh)(a:Addr):g.in.A a↔g.A a:=by
 constructor
 ·rintro(z|(z|z)|z)
  ·exact .inl z
  ·exact .inr (.inl z)
  ·exact .inr (.inr z)
  ·exact False.elim z
 ·rintro(z|z|z)
  ·exact .inl z
  ·exact .inr (.inl (.inl z))
  ·exact .inr (.inl (.inr z))
theorem Kd.in(k:Kd g H):Kd g.in H:=⟨fun a z=>k.ob a ((Yk g a).mp z),fun a z=>False.elim z,fun a z=>⟨z.elim (fun z=>(k.lc a z).1) (fun z=>k.lo a z),fun y=>y⟩⟩
def ini(n:Nat)(ds:List Dat):Env:=ds.map (fun d=>some (.dat d))++List.replicate (n - ds.length) none
theorem aaO{N:List Str}{vs:List V}{ds:List Dat}(k:Kd g H)(w:fU K aj g H M)(r:aH K g H vs ds):SInv K aj (start N vs) H g (ini N.length ds) M where
 kd:=k
 wok:=w
 len:=by
  unfold L2.start ini
  rw[arj,arj,aqO,aqO,List.length_replicate,List.length_replicate,r.length]
 dat:=fun i d h=>by
  unfold ini at h
  unfold L2.start
  by_cases hi:i < ds.length
  ·rw[aqP (by rw[aqO];exact hi),aqQ]at h
   cases hd:ds[i]? with
   |none=>rw[hd]at h;cases h
   |some d'=>
    rw[hd]at h
    cases h
    obtain⟨v,h1,h2⟩:=r.get hd
    refine⟨v,?_,h2⟩
    rw[aqP (by rw[aqO,r.length];exact hi),aqQ,h1]
    rfl
  ·rw[aqT (by rw[aqO];omega)]at h
   rw[List.getElem?_replicate]at h
   split at h <;> cases h
 own:=fun i xs h=>by
  unfold ini at h
  by_cases hi:i < ds.length
  ·rw[aqP (by rw[aqO];exact hi),aqQ]at h
   cases hd:ds[i]? with
   |none=>rw[hd]at h;cases h
   |some d'=>rw[hd]at h;cases h
  ·rw[aqT (by rw[aqO];omega)]at h
   rw[List.getElem?_replicate]at h
   split at h <;> cases h
 sep:=fun i j xs ys l ne h=>by
  unfold ini at h
  by_cases hi:i < ds.length
  ·rw[aqP (by rw[aqO];exact hi),aqQ]at h
   cases hd:ds[i]? with
   |none=>rw[hd]at h;cases h
   |some d'=>rw[hd]at h;cases h
  ·rw[aqT (by rw[aqO];omega)]at h
   rw[List.getElem?_replicate]at h
   split at h <;> cases h
end
def mQ(n:Nat)(body:SF):Mo->List Dat->Out Dat:=fun M ds=>match body M (ini n ds) with
 |.ret d _=>.ok d
 |.next _ _=>.ok .none
 |.exc x _ _=>.exc x
 |_=>.bad
def mG(n:Nat)(body:SF):Mo->List Dat->aZ Dat:=fun M ds=>match body M (ini n ds) with
 |.ret d M'=>.ok d M'
 |.next _ M'=>.ok .none M'
 |.exc x _ M'=>.exc x M'
 |_=>.bad
section
variable{P:Program}{w:World}{K:aqE}{mg:Str->Option Value}{base:Heap}{aj:aO}
def aeK(E:XK):WX:=fun c d _ H=>E c d H
theorem Rep.same{g g':Gh}{H:Hp}{v:V}{d:Dat}(e:g'.tbl=g.tbl)(n:∀a,g'.A a↔g.A a)(h:Rep K g H v d):Rep K g' H v d:=h.less e fun a z=>(n a).mp z
theorem abx{g g':Gh}{H H':Hp}(r:Gr true g.in g' H H'):Ex H H':=fun a o h=>by
 by_cases w:g.W a
 ·exact r.keepW rfl a o h w
 ·exact r.keep a o h w fun z=>z
theorem ahZ{q:Bool}{g g':Gh}{H H':Hp}(r:Gr q g.in g' H H')(a:Addr):g'.fr.A a↔(g'.W a∨g.Lc a∨g.Lo a):=by
 have hl:g'.Lc=g.in.Lc:=r.Lc
 constructor
 ·rintro(z|z|z)
  ·exact .inl z
  ·have z:g'.Lc a:=z
   rw[hl]at z
   exact .inr z
  ·exact False.elim z
 ·rintro(z|z)
  ·exact .inl z
  ·refine .inr (.inl ?_)
   show g'.Lc a
   rw[hl]
   exact z
theorem amC{x qual:Str}{st:Stmt}{f:Addr}{fd:FuncData}{N ps:List Str}{k:Nat}{body:SF}(F:Fun K x qual st f fd)(S:FnScope N ps (defScope st))
  (hb:∀(cdv:Value) (A:Around) (outer:List PySem.Env) (s:Shared) (H:Hp) (E:XK),Room k (A.deeper (envOfC qual (defScope st) s.heap.objs.size f cdv))->Dm aj (cxOf (L2.CX P w) P w K mg base N qual (defScope st) f cdv A outer s H E) (aeK E) true (defBody st) body) :
  FnOk P w K mg base (L2.CX P w) (k+1) f fd ps (QJ K aj ps.length (mQ N.length body)):=by
 refine F.okX S (fun vs H Q E h=>h.1) (fun cdv A outer s H vs Q E hr h=>⟨_,hb cdv A outer s H E hr,?_⟩)
 obtain⟨hl,g,M,ds,kd,wk,rs,h⟩:=h
 have wk':fU K aj g.in H M:=fU.less (g:=g) (g':=g.in) rfl rfl (fun a z=>(Yk g a).mp z) wk
 refine⟨g.in,ini N.length ds,M,aaO kd.in wk' (aH.less (g:=g) (g':=g.in) rfl (fun a z=>(Yk g a).mp z) rs),?_⟩
 have back:∀{g':Gh} {H':Hp},Gr true g.in g' H H'->∀a,g.A a↔g'.fr.A a:=fun {g' H'} r a=>by
  rw[ahZ r a]
  have e:=(r.qg rfl)
  have ew:g'.W a↔g.W a:=by
   unfold Gh.W
   rw[e.1,e.2]
   rfl
  unfold Gh.A
  rw[ew]
 unfold mQ at h
 cases hf:body M (ini N.length ds) with
 |next ρ' M'=>
  rw[hf]at h
  exact fun σ' H' g' r I'=>h _ H' (abx r) .non
 |ret d M'=>
  rw[hf]at h
  exact fun v H' g' r k' w' rv=>h v H' (abx r) (Rep.same (g:=g'.fr) (g':=g) (r.qg rfl).1.symm (back r) rv)
 |exc x ρ' M'=>
  rw[hf]at h
  exact fun σ' H' g' c dd r I' rx=>h H' c dd (abx r) (qd.less (g:=g'.fr) (g':=g) (r.qg rfl).1.symm (fun a z=>(back r a).mp z) rx)
 |brk ρ' M'=>rw[hf]at h;exact False.elim h
 |cont ρ' M'=>rw[hf]at h;exact False.elim h
 |bad=>rw[hf]at h;exact False.elim h
theorem anb{x qual:Str}{st:Stmt}{f:Addr}{fd:FuncData}{N ps:List Str}{k:Nat}{body:SF}(F:Fun K x qual st f fd)(S:FnScope N ps (defScope st))
  (hb:∀(cdv:Value) (A:Around) (outer:List PySem.Env) (s:Shared) (H:Hp) (E:XK),Room k (A.deeper (envOfC qual (defScope st) s.heap.objs.size f cdv))->Dm aj (cxOf (L2.CX P w) P w K mg base N qual (defScope st) f cdv A outer s H E) (aeK E) false (defBody st) body) :
  FnOk P w K mg base (L2.CX P w) (k+1) f fd ps (Gi K aj ps.length (mG N.length body)):=by
 refine F.okX S (fun vs H Q E h=>h.1) (fun cdv A outer s H vs Q E hr h=>⟨_,hb cdv A outer s H E hr,?_⟩)
 obtain⟨hl,g,M,ds,kd,wk,rs,h⟩:=h
 have wk':fU K aj g.in H M:=fU.less (g:=g) (g':=g.in) rfl rfl (fun a z=>(Yk g a).mp z) wk
 refine⟨g.in,ini N.length ds,M,aaO kd.in wk' (aH.less (g:=g) (g':=g.in) rfl (fun a z=>(Yk g a).mp z) rs),?_⟩
 let gb:Gh->Gh:=fun g'=>{ tbl:=g'.tbl,ow:=g'.ow,Lc:=g.Lc,Lo:=g.Lo }
 have gc:∀{g':Gh} {H':Hp},Gr false g.in g' H H'->Gc g (gb g') H H':=fun {g' H'} r=>⟨fun a o h n=>r.keep a o h n fun z=>z,r.dom,r.tbl,r.W,r.nW,rfl,rfl⟩
 have eA:∀{g':Gh} {H':Hp},Gr false g.in g' H H'->∀a,(gb g').A a↔g'.fr.A a:=fun {g' H'} r a=>by
  rw[ahZ r a]
  exact Iff.rfl
 have kk:∀{g':Gh} {H':Hp},Gr false g.in g' H H'->Kd g'.fr H'->Kd (gb g') H':=fun {g' H'} r k'=>by
  have nw:∀a,(g.Lc a∨g.Lo a)->¬g'.W a:=fun a z y=>by
   have:g'.fr.Lc a:=by
    show g'.Lc a
    rw[show g'.Lc=g.in.Lc from r.Lc]
    exact z
   exact(k'.lc a this).1 y
  exact⟨fun a z=>k'.ob a ((eA r a).mp z),fun a z=>nw a (.inr z),fun a z=>⟨nw a (.inl z),(kd.lc a z).2⟩⟩
 unfold mG at h
 cases hf:body M (ini N.length ds) with
 |next ρ' M'=>
  rw[hf]at h
  exact fun σ' H' g' r I'=>h _ H' (gb g') (gc r) (kk r I'.kd.fr) (fU.less (g:=g'.fr) (g':=gb g') rfl rfl (fun a z=>(eA r a).mp z) I'.wok.fr) .non
 |ret d M'=>
  rw[hf]at h
  exact fun v H' g' r k' w' rv=>h v H' (gb g') (gc r) (kk r k') (fU.less (g:=g'.fr) (g':=gb g') rfl rfl (fun a z=>(eA r a).mp z) w') (Rep.same (g:=g'.fr) (g':=gb g') rfl (eA r) rv)
 |exc x ρ' M'=>
  rw[hf]at h
  exact fun σ' H' g' c dd r I' rx=>h H' (gb g') c dd (gc r) (kk r I'.kd.fr) (fU.less (g:=g'.fr) (g':=gb g') rfl rfl (fun a z=>(eA r a).mp z) I'.wok.fr) (qd.less (g:=g'.fr) (g':=gb g') rfl (fun a z=>(eA r a).mp z) rx)
 |brk ρ' M'=>rw[hf]at h;exact False.elim h
 |cont ρ' M'=>rw[hf]at h;exact False.elim h
 |bad=>rw[hf]at h;exact False.elim h
end
def aY(m:Mo->List Dat->Out Dat)(as:QA):QF:=fun M ρ=>(as M ρ).bind fun ds=>m M ds
section
variable{X:Cx}{aj:aO}{W:WX}{q:Bool}{a b e:Expr}{es:List Expr}{pos p:Pos}{x:Str}{k:Nat}{f:Addr}{fd:FuncData}{ps:List Str}
theorem agL{m:Mo->List Dat->Out Dat}{as:QA}(tk:Takes X W)(F:FnOk X.prog X.w X.K X.mg X.base (L2.CX X.prog X.w) k f fd ps (QJ X.K aj ps.length m))(hr:Room k X.A)(hg:Gl X x)(hm:X.mg x=some (.ref f))(hk:PySem.W.keepIn X.K (.ref f)=true)(hb:Binds X.K fd ps [])
  (ha:Dy aj X W (e::es) as) (hl:(e::es).length=ps.length) (hd:(x==("__debug__" : Str))=false) (hs:(e::es).all nst=true) (hn:∀M ρ ds,as M ρ=.ok ds->ds.length=(e::es).length):QE aj X W (.Call (.Name x p) (e::es) [] pos) (aY m as):=by
 have hs':=hs
 rw[arb,aqF]at hs'
 refine PE.weak (pe_callS (E:=fun σ=>WE W σ) F hr hg hm hk hb (fun σ=>passAt tk σ) ha hd (cI hs'.1 es) (star_any es hs'.2)) fun σ H Q ⟨g,ρ,M,I,h⟩=>?_
 refine⟨g,ρ,M,I,?_⟩
 have h:=h.bnd
 cases has:as M ρ with
 |exc x=>rw[has]at h;exact h
 |bad=>rw[has]at h;exact h
 |ok ds=>
  rw[has]at h
  have h:(m M ds).sat (fun d=>∀v H',Ex H H'->Rep X.K g H' v d->Q v H') (qG X.K aj W g H σ):=h
  intro vs H1 e1 r1
  refine⟨by rw[r1.length,hn M ρ ds has];exact hl,g,M,ds,I.kd.ex e1,I.wok.ex e1 I.kd,r1,h.mono (fun d k v H' e' r'=>k v H' (e1.trans e') r') fun x k H' c dd e' r'=>k H' c dd (e1.trans e') r'⟩
end
theorem aeQ{n:Nat}(h:n<=16001):n<=sizeLine:=aq7 h (by decide)
theorem ali{prog:Program}{w:World}{A:Around}{E:Value->Shared->Prop}{s:Shared}{l:Addr}{v0:Value}{vs:List Value}{Q:List Value->Shared->Prop}(hh:A.handled=none)(hl:s.heap.IsList l (v0::vs).toArray∨IsTup s.heap l (v0::vs).toArray)(hz:vs.length<=16000)
  (h:∀(h₂:Heap) (tk:Nat),(∀b o,s.heap.get? b=some o->h₂.get? b=some o)->Q [v0,.ref h₂.objs.size] { s with heap:=h₂.push { cls:=.type "list",data:=.seq vs.toArray },toks:=tk }):wpAny (model prog w) A (unpackItems (.ref l) 2 (some 1)) Q E s:=by
 have hll:l < s.heap.objs.size:=by
  rcases hl with⟨o,ho,_⟩|⟨o,ho,_⟩ <;> exact Heap.lt_size ho
 have hlt:l≠s.heap.objs.size:=ard hll
 have hsz:(v0::vs).toArray.size=vs.length+1:=by simp
 have hb:(v0::vs).toArray.size<=sizeLine:=aeQ (by rw[hsz];omega)
 have hd:(v0::vs).toArray.toList.drop 1=vs:=by simp
 have ht:((v0::vs).toArray.toList.drop 0).take 1=[v0]:=by simp
 have fin:∀(h₂:Heap) (tk:Nat),(∀b o,b≠s.heap.objs.size->s.heap.get? b=some o->h₂.get? b=some o)->wpAny (model prog w) A (newList vs >>= fun d=>pure ([v0]++[d]++[])) Q E { s with heap:=h₂,toks:=tk }:=fun h₂ tk k=>by
  refine wpAny_bind (wpAny_newObj_type (wpAny_pure ?_) (aeQ (by simp;omega)))
  exact h h₂ tk fun b o e=>k b o (ard (Heap.lt_size e)) e
 unfold unpackItems
 refine wpAny_bind ?_
 unfold notIterableAtAll
 rcases hl with hl|hl
 ·refine wpAny_bind (wpAny_specialOf hl.typeIs slot_list_iter.lookup (wpAny_pure ?_))
  simp only[aq9,if_false]
  refine wpAny_bind (wpAny_holding (wpAny_pyIter_list hl ?_))
  refine wpAny_bind (wpAny_holding (PySem.W.kun_draw hlt 1 0 _ _ ⟨_,Heap.get?_push_size _ rfl,rfl,rfl⟩ (hl.push _) (by rw[hsz];omega) fun h₁ i1 b1=>?_))
  have hl₁:=(hl.push _).extBut b1.extBut hlt
  obtain⟨oi,hoi,_⟩:=id i1
  obtain⟨ol,hol,_⟩:=id hl₁
  rw[ht]
  refine wpAny_bind (wpAny_holding (PySem.W.kun_collect (s:={ s with heap:=h₁ }) (T:="list_iterator") (.inr (.inr (.inl rfl))) (Walks.list (A:=A.in1) hh s.heap.objs.size l hlt (v0::vs).toArray) (fun j u st=>st.1.typeIs) (k:=1) (by rw[hsz];omega) ⟨i1,hl₁⟩ (Heap.lt_size hoi) (Heap.lt_size hol) (fun h₂ tk hk=>?_) hb))
  rw[hd]
  show wpAny _ _ (if vs.length < 0 then _ else newList (vs.take (vs.length - 0)) >>= fun d=>pure ([v0]++[d]++vs.drop (vs.length - 0))) _ _ _
  rw[if_neg (Nat.not_lt_zero _),Nat.sub_zero,List.take_length,arE]
  exact fin h₂ tk fun b o ne e=>hk b o ne (b1.extBut b o ne (Heap.get?_push_of_some _ e))
 ·refine wpAny_bind (wpAny_specialOf hl.typeIs slot_tuple_iter.lookup (wpAny_pure ?_))
  simp only[aq9,if_false]
  refine wpAny_bind (wpAny_holding (iter_tuple hl ?_))
  refine wpAny_bind (wpAny_holding (draw_tuple hlt 1 0 _ _ ⟨_,Heap.get?_push_size _ rfl,rfl,rfl⟩ (hl.push _) (by rw[hsz];omega) fun h₁ i1 b1=>?_))
  have hl₁:IsTup h₁ l (v0::vs).toArray:=(hl.push _).extBut b1.extBut hlt
  obtain⟨oi,hoi,_⟩:=id i1
  obtain⟨ol,hol,_⟩:=id hl₁
  rw[ht]
  refine wpAny_bind (wpAny_holding (PySem.W.kun_collect (s:={ s with heap:=h₁ }) (T:="tuple_iterator") (.inr (.inr (.inr rfl))) (Walks.tuple (A:=A.in1) hh s.heap.objs.size l hlt (v0::vs).toArray) (fun j u st=>st.1.typeIs) (k:=1) (by rw[hsz];omega) ⟨i1,hl₁⟩ (Heap.lt_size hoi) (Heap.lt_size hol) (fun h₂ tk hk=>?_) hb))
  rw[hd]
  show wpAny _ _ (if vs.length < 0 then _ else newList (vs.take (vs.length - 0)) >>= fun d=>pure ([v0]++[d]++vs.drop (vs.length - 0))) _ _ _
  rw[if_neg (Nat.not_lt_zero _),Nat.sub_zero,List.take_length,arE]
  exact fin h₂ tk fun b o ne e=>hk b o ne (b1.extBut b o ne (Heap.get?_push_of_some _ e))
def agj(K:aqE)(i j:Nat):TG:=fun v σ H Q=>∃a v0 us,v=.ref a/\(SqL K H a (v0::us)∨SqT K H a (v0::us))/\us.length<=16000/\∀D,H D=none->Q ((σ.set i (some v0)).set j (some (.ref D))) (upd H D (.lst us))
def Uc(X:Cx)(j:Nat)(x:Str):Prop:=X.N[j]?=some x/\Loc X.env.scope x/\(X.fn x=true∨X.env.scope.names.lookup x=some .local)
theorem ahD{X:Cx}{i j k:Nat}{x y:Str}{px py ps pos:Pos}(hc:X.calm=true)(hN:X.N.Nodup)(hx:Uc X i x)(hy:Uc X j y):PG X (.Tuple [.Name x px,.Starred (.Name y py) ps] k pos) (agj X.K i j):=by
 refine⟨fun pins s σ H v u Q I r h=>?_⟩
 obtain⟨a,v0,us,rfl,hq,hz,q⟩:=h
 cases r
 have e1:assign (.Tuple [.Name x px,.Starred (.Name y py) ps] k pos) X.env (.ref a)=(do standAt pos;unpack (.ref a) (assignEach [.Name x px,.Starred (.Name y py) ps] X.env)):=by with_unfolding_all rfl
 have e2:assignEach [.Name x px,.Starred (.Name y py) ps] X.env=[(false,assign (.Name x px) X.env),(true,assign (.Name y py) X.env)]:=by with_unfolding_all rfl
 rw[e1,e2]
 refine wpAny_bind (wpAny_standAt ?_)
 unfold unpack
 obtain⟨w0,ws,hlw,rv0,rvs⟩:∃w0 ws,(s.heap.IsList a (w0::ws).toArray∨IsTup s.heap a (w0::ws).toArray)/\RelV v0 w0/\Vals us ws:=by
  rcases hq with hq|hq
  ·obtain⟨its,rv,p,_⟩:=I.list hq
   cases rv with
   |cons r t=>exact⟨_,_,.inl p.isList,r,t⟩
  ·obtain⟨its,rv,p,_⟩:=I.tuple hq
   cases rv with
   |cons r t=>exact⟨_,_,.inr p,r,t⟩
 refine wpAny_bind (wpAny_holding (ali (I.ok.hd hc) hlw (by rw[←rvs.length];exact hz) fun h₂ tk hk=>?_))
 have I2:L2.Inv X pins σ H { s with heap:=h₂,toks:=tk }:=I.kept (t':=tk) hk
 have I3:=I2.lnew (t':=tk) rvs (aeQ (by omega))
 refine assignInOrder_cons (wpAny_assign_Name (store_ok I3 hN hx.1 hx.2.1 rv0 (fun s4 I4=>?_) hx.2.2))
 refine assignInOrder_cons (wpAny_assign_Name (store_ok I4 hN hy.1 hy.2.1 (v:=.ref h₂.objs.size) rfl (fun s5 I5=>assignInOrder_nil ?_) hy.2.2))
 exact⟨_,_,I5,q _ I2.fresh⟩
section
variable{X:Cx}{aj:aO}{W:WX}{q:Bool}{e:Expr}{pos:Pos}
def W8(i j:Nat)(f:GF):SF:=fun M ρ=>(f M ρ).then ρ fun d M'=>match d with
 |.list (d0::ds)=>if ds.length<=16000 then .next ((ρ.set i (some (.dat d0))).set j (some (.dat (.list ds)))) M' else .bad
 |.tuple (d0::ds)=>if ds.length<=16000 then .next ((ρ.set i (some (.dat d0))).set j (some (.dat (.list ds)))) M' else .bad
 |_=>.bad
theorem ags{i j k:Nat}{x y:Str}{px py ps tp:Pos}{f:GF}(hc:X.calm=true)(hN:X.N.Nodup)(hx:Uc X i x)(hy:Uc X j y)(he:GE aj X W q e f)(hs:swapsWithSole [.Tuple [.Name x px,.Starred (.Name y py) ps] k tp] e pos.line X.env=pure false)(hw:swappedStores [.Tuple [.Name x px,.Starred (.Name y py) ps] k tp] e X.env=pure none) :
  SE aj X W q (.Assign [.Tuple [.Name x px,.Starred (.Name y py) ps] k tp] e pos) (W8 i j f):=by
 refine PS.weak (ps_asg he (ahD hc hN hx hy) hs hw (by with_unfolding_all rfl)) fun D σ H ⟨g,ρ,M,I,z⟩=>?_
 refine tE.go I (cW (σ:=σ) z) fun d M' v H' g' kk r I' rv=>?_
 have fin:∀{a:Addr} {v0:V} {us:List V} {d0:Dat} {ds:List Dat},v=.ref a->(SqL X.K H' a (v0::us)∨SqT X.K H' a (v0::us))->Rep X.K g' H' v0 d0->aH X.K g' H' us ds->(if ds.length<=16000 then rZ.next ((ρ.set i (some (.dat d0))).set j (some (.dat (.list ds)))) M' else .bad).sat (sN X.K aj q D.nx g H) (sR X.K aj q D.rt g H) (sN X.K aj q D.bk g H) (sN X.K aj q D.ct g H) (sX X.K aj W q g H)->agj X.K i j v σ H' D.nx:=fun {a v0 us d0 ds} ev hq r0 rs kk=>by
  split at kk
  ·next hz=>
   refine⟨a,v0,us,ev,hq,by rw[rs.length];exact hz,fun p np=>?_⟩
   have e1:=Ex.new (o:=.lst us) np
   have I2:=I'.ex e1
   refine kk _ _ g' (r.trans (Gr.ex e1)) ((I2.set (r0.ex e1 I'.kd)).set (.lst (.inl ⟨.inl upd_same,I'.kd.fresh np⟩) (rs.ex e1 I'.kd)))
  ·exact False.elim kk
 split at kk
 ·obtain⟨a,us,ev,s1,t1⟩:=iY rv.weak
  cases t1 with
  |cons r0 rs=>exact fin ev (.inl s1) r0 rs kk
 ·obtain⟨a,us,ev,s1,t1⟩:=lF rv.weak
  cases t1 with
  |cons r0 rs=>exact fin ev (.inr s1) r0 rs kk
 ·exact False.elim kk
def Q6(i j:Nat)(f:GF):SF:=fun M ρ=>(f M ρ).then ρ fun d M'=>.next ((ρ.set i (some (.dat d))).set j (some (.dat d))) M'
theorem ahe{i j:Nat}{x y:Str}{px py:Pos}{f:GF}(hN:X.N.Nodup)(hx:Uc X i x)(hy:Uc X j y)(he:GE aj X W q e f)(hw:swappedStores [.Name x px,.Name y py] e X.env=pure none):SE aj X W q (.Assign [.Name x px,.Name y py] e pos) (Q6 i j f):=by
 refine PS.weak (ps_asg2 he (pg_name hN hx.1 hx.2.1 hx.2.2) (pg_name hN hy.1 hy.2.1 hy.2.2) (by with_unfolding_all rfl) hw) fun D σ H ⟨g,ρ,M,I,z⟩=>?_
 exact tE.go I (cW (σ:=σ) z) fun d M' v H' g' kk r I' rv=>kk _ H' g' r ((I'.set rv).set rv)
theorem Qo{pins:List (Addr×Obj)}{H:Hp}{Q:Unit->Shared->Prop}(hN:X.N.Nodup):∀{xs:List Str} {js:List Nat} {vs:List V} {us:List Value} {σ:L2.St} {s:Shared},xs.length=js.length->Vals vs us->us.length=js.length->(∀(n:Nat) (x:Str) (j:Nat),xs[n]?=some x->js[n]?=some j->X.N[j]?=some x/\X.env.scope.names.lookup x=some .local)->L2.Inv X pins σ H s->
  (∀s',L2.Inv X pins (sets σ js vs) H s'->Q () s')->wpAny (model X.prog X.w) X.A (assignInOrder (xs.map fun n=>bindName X.env n) us) Q X.xe s
 |[],[],_,[],σ,s,_,.nil,_,_,I,h=>assignInOrder_nil (h s I)
 |[],[],_,_::_,_,_,_,_,e,_,_,_=>nomatch e
 |[],_::_,_,_,_,_,e,_,_,_,_,_=>nomatch e
 |_::_,[],_,_,_,_,e,_,_,_,_,_=>nomatch e
 |x::xs,j::js,_,[],_,_,_,.nil,e,_,_,_=>nomatch e
 |x::xs,j::js,_,_::_,σ,s,e1,.cons r t,e2,hn,I,h=>by
  obtain⟨h1,h2⟩:=hn 0 x j rfl rfl
  refine assignInOrder_cons (wpAny_bindName (store_ok I hN h1 (.inl h2) r (fun s2 I2=>?_) (.inr h2)))
  exact Qo hN (arv e1) t (arv e2) (fun n x j a b=>hn (n+1) x j a b) I2 h
theorem Z4(σ:L2.St):∀(js:List Nat) (vs:List V) (ks:List Nat) (ws:List V),js.length=vs.length->sets σ (js++ks) (vs++ws)=sets (sets σ js vs) ks ws:=by
 intro js
 induction js generalizing σ with
 |nil=>
  intro vs ks ws e
  cases vs with
  |nil=>rfl
  |cons v vs=>cases e
 |cons j js ih=>
  intro vs ks ws e
  cases vs with
  |nil=>cases e
  |cons v vs=>exact ih (σ.set j (some v)) vs ks ws (arv e)
theorem U8(j:Nat)(v:V):∀(js:List Nat) (vs:List V) (σ:L2.St),j∉js->(sets σ js vs).set j (some v)=sets (σ.set j (some v)) js vs
 |[],_,_,_=>by unfold sets;rfl
 |_::_,[],_,_=>by unfold sets;rfl
 |k::js,w::vs,σ,h=>by
  show(sets (σ.set k (some w)) js vs).set j (some v)=sets ((σ.set j (some v)).set k (some w)) js vs
  rw[U8 j v js vs _ fun z=>h (aqJ _ z),List.set_comm _ _ (fun z=>h (by rw[z];exact aqK))]
theorem ZM:∀(js:List Nat) (vs:List V) (σ:L2.St),js.Nodup->js.length=vs.length->sets σ js.reverse vs.reverse=sets σ js vs
 |[],[],_,_,_=>rfl
 |[],_::_,_,_,e=>nomatch e
 |_::_,[],_,_,e=>nomatch e
 |j::js,v::vs,σ,nd,e=>by
  rw[arB]at nd
  rw[arI,arI,Z4 _ _ _ _ _ (by rw[aru,aru];exact arv e),ZM js vs σ nd.2 (arv e)]
  show(sets σ js vs).set j (some v)=sets (σ.set j (some v)) js vs
  exact U8 j v js vs σ nd.1
theorem vals_rev{vs:List V}{us:List Value}(r:Vals vs us):Vals vs.reverse us.reverse:=by
 induction r with
 |nil=>exact .nil
 |cons h t ih=>
  rw[arI,arI]
  exact Vals.append ih (.cons h .nil)
def tPN(js:List Nat)(ta:TA):TS:=fun D σ H=>ta σ H fun vs H1=>vs.length=js.length/\D.nx (sets σ js vs) H1
theorem alz{ts es:List Expr}{xs:List Str}{js:List Nat}{ta:TA}{kt k2:Nat}{pt p2:Pos}(hc:X.calm=true)(hN:X.N.Nodup)(hnd:js.Nodup)(hl:xs.length=js.length)(h3:js.length<=3)(hn:∀(n:Nat) (x:Str) (j:Nat),xs[n]?=some x->js[n]?=some j->X.N[j]?=some x/\X.env.scope.names.lookup x=some .local)(ha:PA X es ta)
  (hw:swappedStores [.Tuple ts kt pt] (.Tuple es k2 p2) X.env=pure (some xs)) (hs:swapsWithSole [.Tuple ts kt pt] (.Tuple es k2 p2) pos.line X.env=pure false):PS X (.Assign [.Tuple ts kt pt] (.Tuple es k2 p2) pos) (tPN js ta):=by
 refine⟨fun pins s σ H D I h=>?_⟩
 rw[exec_Assign_arm]
 refine wpAny_bind (wpAny_standAt ?_)
 rw[hs]
 refine wpAny_bind (wpAny_pure ?_)
 rw[if_neg (by decide)]
 refine wpAny_bind (Tuple_ (thn (ha.run _ pins s σ H _ I h) fun us s1 ⟨vs,H1,I1,r1,e1,q1⟩=>?_))
 have hu:us.length=js.length:=by
  rw[←r1.length]
  exact e1
 refine wpAny_newObj_type ?_ (aq7 (by simp;omega) (show 3<=sizeLine by decide))
 have I2:L2.Inv X pins σ H1 { s1 with heap:=s1.heap.push { cls:=.type "tuple",data:=.seq us.toArray } }:=I1.kept (t':=s1.toks) fun b o z=>Heap.get?_push_of_some _ z
 rw[hw]
 refine wpAny_bind (wpAny_pure ?_)
 show wpAny (model X.prog X.w) X.A (do rule "assign.swapped-stores";let items ←unpackItems (.ref s1.heap.objs.size) xs.length none;assignInOrder (xs.reverse.map fun n=>bindName X.env n) items.reverse;pure Flow.next) _ _ _
 have hz:us.toArray.size=xs.length:=by
  rw[arQ,hu,hl]
 have hup:=fun {Q:List Value->Shared->Prop} hQ=>unpackItems_tuple (prog:=X.prog) (w:=X.w) (A:=X.A) (E:=X.xe) (s:={ s1 with heap:=s1.heap.push { cls:=.type "tuple",data:=.seq us.toArray } }) (items:=us.toArray) (Q:=Q) (I.ok.hd hc) (IsTup.new s1.heap _) hQ
 rw[hz]at hup
 refine wpAny_bind (wpAny_rule (wpAny_bind (hup fun h' hx'=>?_)))
 have I3:=I2.kept (h':=h') (t':=s1.toks) fun b o z=>hx' b o (ard (Heap.lt_size z)) z
 refine wpAny_bind (Qo hN (js:=js.reverse) (vs:=vs.reverse) (by rw[aru,aru];exact hl) (vals_rev r1) (by rw[aru,aru];exact hu) (fun n x j a b=>?_) I3 fun s4 I4=>wpAny_pure ?_)
 ·have n1:=(aqG.mp a).1
  have n2:=(aqG.mp b).1
  rw[aru]at n1 n2
  rw[List.getElem?_reverse n1]at a
  rw[List.getElem?_reverse n2,←hl]at b
  exact hn _ x j a b
 ·rw[ZM js vs σ hnd e1.symm]at I4
  exact⟨_,H1,I4,q1⟩
def sPN(js:List Nat)(as:QA):SF:=fun M ρ=>((as M ρ).at M).then ρ fun ds M'=>match qQ js ds ρ with
 |some ρ'=>.next ρ' M'
 |none=>.bad
theorem alh{ts es:List Expr}{xs:List Str}{js:List Nat}{as:QA}{kt k2:Nat}{pt p2:Pos}(hc:X.calm=true)(hN:X.N.Nodup)(hnd:js.Nodup)(hl:xs.length=js.length)(h3:js.length<=3)(hn:∀(n:Nat) (x:Str) (j:Nat),xs[n]?=some x->js[n]?=some j->X.N[j]?=some x/\X.env.scope.names.lookup x=some .local)(ha:Dy aj X W es as)
  (hw:swappedStores [.Tuple ts kt pt] (.Tuple es k2 p2) X.env=pure (some xs)) (hs:swapsWithSole [.Tuple ts kt pt] (.Tuple es k2 p2) pos.line X.env=pure false):SE aj X W q (.Assign [.Tuple ts kt pt] (.Tuple es k2 p2) pos) (sPN js as):=by
 refine PS.weak (alz hc hN hnd hl h3 hn ha hw hs) fun D σ H ⟨g,ρ,M,I,z⟩=>?_
 refine⟨g,ρ,M,I,?_⟩
 unfold sPN at z
 cases hf:as M ρ with
 |exc x=>rw[hf]at z;exact fun H' c dd e r=>z σ H' g c dd (Gr.ex e) (I.ex e) r.fr
 |bad=>rw[hf]at z;exact False.elim z
 |ok ds=>
  rw[hf]at z
  intro vs H' e r
  have z:(match qQ js ds ρ with
   |some ρ'=>rZ.next ρ' M
   |none=>.bad).sat (sN X.K aj q D.nx g H) (sR X.K aj q D.rt g H) (sN X.K aj q D.bk g H) (sN X.K aj q D.ct g H) (sX X.K aj W q g H):=z
  split at z
  ·next ρ' e'=>
   obtain⟨l1,I1⟩:=Ir (I.ex e) r e'
   exact⟨l1,z _ H' g (Gr.ex e) I1⟩
  ·exact False.elim z
theorem ah3{j:Nat}{y:Str}{py:Pos}{elt tg iter:Expr}{cpos:Pos}{scope:Scope}{own:List (Str×Nat)}{it:IF}{tgf:fK}{js:List Nat}{tt:QT}{te:QF}{ifs:List Expr}(hc:X.calm=true)(hN:X.N.Nodup)(hy:X.N[j]?=some y)(hyl:X.env.scope.names.lookup y=some .local)
  (hsw:swapsWith (.ListComp elt [⟨tg,iter,ifs,0⟩] scope cpos) (some (.Name y py)) pos.line X.env=pure true) (hi:QI aj X W false tg iter it) (ok:blkC X.N X.env.scope scope own=true) (hj:∀j∈js,j∈own.map (·.2))
  (hg:∀(s:Shared) (H:Hp) (C:Addr) (cl:List (Str×Addr)) (fp:List Addr),QG aj (X.blk s H scope (compEnvC scope cl C X.env) fp) tg js tgf)
  (ht:∀(s:Shared) (H:Hp) (C:Addr) (cl:List (Str×Addr)) (fp:List Addr),PTs (X.blk s H scope (compEnvC scope cl C X.env) fp) ifs (j9 X.K aj WF tt))
  (he:∀(s:Shared) (H:Hp) (C:Addr) (cl:List (Str×Addr)) (fp:List Addr),QE aj (X.blk s H scope (compEnvC scope cl C X.env) fp) WF elt te) (hs:∀x,foldedSetIterable iter X.env x=pure x) :
  SE aj X W q (.Assign [.Name y py] (.ListComp elt [⟨tg,iter,ifs,0⟩] scope cpos) pos) (aW (aF j) (gOf (fu it tgf (own.map (·.2)) tt te))):=by
 refine PS.weak (ps_setLc (g:=zJ X.K aj js tgf) (tt:=j9 X.K aj WF tt) (te:=tQ X.K aj WF te) hc hN hy hyl hsw hi (blkOk_by ok) (fun s H C cl fp=>hg s H C cl fp) ht (fun s H C cl fp=>he s H C cl fp) hs) fun D σ H ⟨g,ρ,M,I,z⟩=>?_
 refine afN hj σ H _ ⟨g,ρ,M,I,(Out.gK (cW (σ:=σ) z)).mono (fun d kk v H' e r=>?_) fun x kk H' c dd e r=>kk H' g c dd (Gr.ex e) (I.ex e) r⟩
 exact kk _ H' g (Gr.ex e) ((I.ex e).set r)
end
inductive GV where
 |con (d:Dat)
 |fq (n:Nat) (m:Mo->List Dat->Out Dat)
 |fg (n:Nat) (m:Mo->List Dat->aZ Dat)
 |dic (kvs:List (Str×Dat))
 |exc
 |exi (fs:List Str)
 |cls (n:Nat) (m:Mo->List Dat->aZ Dat)
inductive MV where
 |q (n:Nat) (m:Mo->List Dat->Out Dat)
 |g (n:Nat) (m:Mo->List Dat->aZ Dat)
def FQ(P:Program)(w:World)(K:aqE)(mg:Str->Option Value)(base:Heap)(aj:aO)(k:Nat)(f:Addr)(n:Nat)(m:Mo->List Dat->Out Dat):Prop:=
 ∃(fd:FuncData) (ps:List Str) (j:Nat),j<=k/\ps.length=n/\Binds K fd ps []/\FnOk P w K mg base (L2.CX P w) j f fd ps (QJ K aj ps.length m)
def FG(P:Program)(w:World)(K:aqE)(mg:Str->Option Value)(base:Heap)(aj:aO)(k:Nat)(f:Addr)(n:Nat)(m:Mo->List Dat->aZ Dat):Prop:=
 ∃(fd:FuncData) (ps:List Str) (j:Nat),j<=k/\ps.length=n/\Binds K fd ps []/\FnOk P w K mg base (L2.CX P w) j f fd ps (Gi K aj ps.length m)
def jy(K:aqE)(aj:aO):Prop:=∀c C f,aj c=some C->f∈aj.fl c->Cls K C/\NoAttr K C f
def bV(P:Program)(w:World)(K:aqE)(mg:Str->Option Value)(base:Heap)(aj:aO)(k:Nat)(c m:Str)(v:MV):Prop:=
 ∃C f,aj c=some C/\Cls K C/\Meth K C m f/\m∉aj.fl c/\match v with
  |.q n mm=>FQ P w K mg base aj k f n mm
  |.g n mm=>FG P w K mg base aj k f n mm
def aeO(C:Addr)(fs:List Str):Sp:=fun vs H Q _=>∃(a:Addr) (xs:List V),vs=.ref a::xs/\xs.length=fs.length/\H a=some (exo a C none)/\
 ∀(dx:Addr) (H':Hp),H dx=none->(∀b o,b≠a->H b=some o->H' b=some o)->(∀b,H' b=none->H b=none)->H' a=some (exo a C (some dx))->H' dx=some (exd dx (fs.zip xs).reverse)->Q .non H'
def ab7(w:World)(K:aqE)(a:Addr)(kvs:List (Str×Dat)):Prop:=∃(es:Array DictEntry) (n:Nat),KDict K w a es n/\(kvs.map (·.1)).Nodup/\
 ∀x:Str,match kvs.lookup x with
  |some d=>∃v u,PySem.W.nsIn K a x=some (some u)/\RelV v u/\∀g H,Rep K g H v d
  |none=>PySem.W.nsIn K a x=some none
def bf(P:Program)(w:World)(K:aqE)(mg:Str->Option Value)(base:Heap)(aj:aO)(k:Nat)(x:Str):GV->Prop
 |.con d=>∃v u,mg x=some u/\RelV v u/\∀g H,Rep K g H v d
 |.fq n m=>∃f,mg x=some (.ref f)/\PySem.W.keepIn K (.ref f)=true/\FQ P w K mg base aj k f n m
 |.fg n m=>∃f,mg x=some (.ref f)/\PySem.W.keepIn K (.ref f)=true/\FG P w K mg base aj k f n m
 |.dic kvs=>∃a,mg x=some (.ref a)/\ab7 w K a kvs
 |.exc=>∃C,mg x=some (.ref C)/\aj x=some C/\PySem.W.excIn K C He.veBase "ValueError.__new__"=true/\PySem.W.keepIn K (.ref C)=true/\PySem.W.subIn K (.ref C) (.type "BaseException")=some true/\PySem.W.typeIn K (.ref C)=some (.type "type")
 |.exi fs=>∃(C fI:Addr) (fd:FuncData) (ps:List Str),mg x=some (.ref C)/\aj x=some C/\OexC K C/\PySem.W.findIn K (.ref C) "__init__"=some (some (.ref fI))/\PySem.W.typeIn K (.ref fI)=some (.type "function")/\2<=k/\ps.length=fs.length+1/\Binds K fd ps []/\FnOk P w K mg base CX0 1 fI fd ps (aeO C fs)
 |.cls n m=>∃(C f:Addr) (fd:FuncData) (ps:List Str) (j:Nat),mg x=some (.ref C)/\aj x=some C/\Cls K C/\Mk K C f/\j+1<=k/\ps.length=n+1/\Binds K fd ps []/\FnOk P w K mg base (L2.CX P w) j f fd ps (Gi K aj ps.length m)
def abA(K:aqE)(aj:aO)(y:Str)(tk:Str->Option Bool):Prop:=∀x b C,tk x=some b->aj x=some C->∀D,aj y=some D->PySem.W.exmOne K (.ref C) (.ref D)=some b
def putL(f:Str)(x:iW):List (Str×iW)->List (Str×iW)
 |[]=>[(f,x)]
 |(g,y)::r=>if g=f then(g,x)::r else(g,y)::putL f x r
def Inst.put(i:Inst)(f:Str)(x:iW):Inst:=⟨i.cls,putL f x i.fs⟩
theorem Gz(f:Str)(x:iW):∀gs:List (Str×iW),(putL f x gs).map (·.1)=if f∈gs.map (·.1) then gs.map (·.1) else gs.map (·.1)++[f]
 |[]=>by simp[putL]
 |(g,y)::r=>by
  have ih:=Gz f x r
  rw[putL]
  by_cases e:g=f
  ·subst e
   simp
  ·rw[if_neg e,aqI,ih]
   by_cases h:f∈r.map (·.1)
   ·rw[if_pos h,if_pos (by simp[h])]
    rfl
   ·rw[if_neg h,if_neg (by
     rw[aqI,aqV]
     rintro(z|z)
     ·exact e z.symm
     ·exact h z)]
    rfl
theorem abu{f:Str}{x:iW}{gs:List (Str×iW)}(h:(gs.map (·.1)).Nodup):((putL f x gs).map (·.1)).Nodup:=by
 rw[Gz]
 split
 ·exact h
 ·next n=>
  rw[arq]
  refine⟨h,by simp,fun a ha b hb e=>?_⟩
  subst e
  rw[aqL]at hb
  subst hb
  exact n ha
theorem K9{f:Str}{v:V}:∀{fs:List (Str×V)},fs.lookup f=some v->putF f v fs=fs
 |[],h=>nomatch h
 |(g,y)::r,h=>by
  rw[aq6]at h
  rw[show putF f v ((g,y)::r)=(if g=f then(g,v)::r else(g,y)::putF f v r) from rfl]
  by_cases e:g=f
  ·subst e
   simp at h
   rw[if_pos rfl,h]
  ·have ne:(f==g)=false:=by simpa using fun z=>e z.symm
   rw[ne]at h
   rw[if_neg e,K9 h]
section
variable{K:aqE}{aj:aO}{W:WX}{g g':Gh}{H H':Hp}{σ:L2.St}{ρ:Env}{M:Mo}{h:Nat}{f:Str}{v:V}{fl:iW}
theorem cO.put(hk:∀f' v' fl',f'≠f->dR K aj g H h f' v' fl'->dR K aj g' H' h f' v' fl')(new:dR K aj g' H' h f v fl):∀{fs:List (Str×V)} {gs:List (Str×iW)},cO K aj g H h fs gs->(gs.map (·.1)).Nodup->cO K aj g' H' h (putF f v fs) (putL f fl gs)
 |_,_,.nil,_=>.cons new .nil
 |_,_,.cons (f:=f') (v:=v') (fl:=fl') (fs:=fs) (gs:=gs) z t,nd=>by
  rw[show putF f v ((f',v')::fs)=(if f'=f then(f',v)::fs else(f',v')::putF f v fs) from rfl,putL]
  rw[aqI,arB]at nd
  by_cases e:f'=f
  ·subst e
   rw[if_pos rfl,if_pos rfl]
   refine .cons new ?_
   have go:∀{fs:List (Str×V)} {gs:List (Str×iW)},cO K aj g H h fs gs->f'∉gs.map (·.1)->cO K aj g' H' h fs gs:=fun {fs gs} t=>by
    induction t with
    |nil=>exact fun _=>.nil
    |cons z _ ih=>
     intro n
     rw[aqI,aqV,not_or]at n
     exact .cons (hk _ _ _ (fun q=>n.1 q.symm) z) (ih n.2)
   exact go t nd.1
  ·rw[if_neg e,if_neg e]
   exact .cons (hk _ _ _ e z) (cO.put hk new t nd.2)
structure Chg(M:Mo)(g g':Gh)(H H':Hp)(h:Nat)(f:Str):Prop where
 gc:Gc g g' H H'
 kd:Kd g' H'
 tbl:g'.tbl=g.tbl
 ow:∀a p,g.ow a=some p->g'.ow a=some p
 oth:∀a p,g.ow a=some p->p≠(h,f)->H' a=H a
 ins:∀(k:Nat) (a:Addr) (i:Inst),g.tbl[k]?=some a->M[k]?=some i->i.cls≠""->k≠h->H' a=H a
 nt:∀(k:Nat) (a:Addr) (i:Inst),g.tbl[k]?=some a->M[k]?=some i->i.cls≠""->∀p,g'.ow a≠some p
theorem ju.chg{l:Addr}(r:Gr false g g' H H')(k:Kd g H)(e:H' l=H l):∀{n:Bool} {kvs:List (Dat×Dat)},ju K aj g H l n kvs->ju K aj g' H' l n kvs
 |false,_,⟨kv,h1,h2,h3⟩=>⟨kv,e.trans h1,h2,h3.gr r k⟩
 |true,_,⟨o,xs,vs,h1,h2,h3,h4,h5,h6⟩=>⟨o,xs,vs,e.trans h1,h2,h3,h4.gr r k,h5,h6.gr r k⟩
theorem dR.chg(c:Chg M g g' H H' h f)(k:Kd g H){h':Nat}{f':Str}{v':V}(ne:(h',f')≠(h,f)):∀{fl':iW},dR K aj g H h' f' v' fl'->dR K aj g' H' h' f' v' fl'
 |.dat _,z=>Rep.gr c.gc.gr k z
 |.lst _ _,⟨l,us,h1,h2,h3,h4,h5⟩=>⟨l,us,h1,(c.oth l _ h3 ne).trans h2,c.ow l _ h3,h4.gr c.gc.gr k,c.gc.gr.tb h5⟩
 |.dic _ _,⟨l,h1,h2,h3⟩=>⟨l,h1,c.ow l _ h2,h3.chg c.gc.gr k (c.oth l _ h2 ne)⟩
theorem fU.chg(w:fU K aj g H M)(k:Kd g H)(c:Chg M g g' H H' h f){a:Addr}{i:Inst}(ha:g.tbl[h]?=some a)(hi:M[h]?=some i)(hne:i.cls≠"")(hf:f∈aj.fl i.cls){C dx:Addr}{fs:List (Str×V)}(hC:aj i.cls=some C)(R:cO K aj g H h fs i.fs)
  (e':H' a=some (.ins C dx (putF f v fs))) (new:dR K aj g' H' h f v fl):fU K aj g' H' (M.set h (i.put f fl)) where
 len:=by rw[c.tbl,aq4];exact w.len
 inj:=by rw[c.tbl];exact w.inj
 ins:=fun h' a' i' ha' hi' hc'=>by
  rw[c.tbl]at ha'
  by_cases z:h'=h
  ·subst z
   rw[ha]at ha'
   cases ha'
   rw[aqX (aqG.mp hi).1]at hi'
   cases hi'
   exact⟨C,dx,_,hC,e',R.put (fun f' v' fl' ne z=>z.chg c k fun q=>ne (congrArg Prod.snd q)) new (w.nd _ i hi)⟩
  ·rw[aqN (Ne.symm z)]at hi'
   obtain⟨C',dx',fs',c1,c2,c3⟩:=w.ins h' a' i' ha' hi' hc'
   refine⟨C',dx',fs',c1,(c.ins h' a' i' ha' hi' hc' z).trans c2,?_⟩
   have go:∀{fs:List (Str×V)} {gs:List (Str×iW)},cO K aj g H h' fs gs->cO K aj g' H' h' fs gs:=fun {fs gs} t=>by
    induction t with
    |nil=>exact .nil
    |cons y _ ih=>exact .cons (y.chg c k fun q=>z (congrArg Prod.fst q)) ih
   exact go c3
 nd:=fun h' i' hi'=>by
  by_cases z:h'=h
  ·subst z
   rw[aqX (aqG.mp hi).1]at hi'
   cases hi'
   exact abu (w.nd _ i hi)
  ·rw[aqN (Ne.symm z)]at hi'
   exact w.nd h' i' hi'
 fd:=fun h' i' hi' f' hf'=>by
  by_cases z:h'=h
  ·subst z
   rw[aqX (aqG.mp hi).1]at hi'
   cases hi'
   have hf':f'∈(putL f fl i.fs).map (·.1):=hf'
   rw[Gz]at hf'
   split at hf'
   ·exact w.fd _ i hi f' hf'
   ·rcases aqU.mp hf' with y|y
    ·exact w.fd _ i hi f' y
    ·rw[aqL]at y
     rw[y]
     exact hf
  ·rw[aqN (Ne.symm z)]at hi'
   exact w.fd h' i' hi' f' hf'
 tw:=fun k' a' i' ha' hi' hc'=>by
  rw[c.tbl]at ha'
  have:∃i0,M[k']?=some i0/\i0.cls≠"":=by
   by_cases z:k'=h
   ·subst z
    exact⟨i,hi,hne⟩
   ·rw[aqN (Ne.symm z)]at hi'
    exact⟨i',hi',hc'⟩
  obtain⟨i0,m1,m2⟩:=this
  cases hz:g'.ow a' with
  |none=>rfl
  |some p=>exact absurd hz (c.nt k' a' i0 ha' m1 m2 p)
 dm:=fun h' i' hi' hc'=>by
  by_cases z:h'=h
  ·subst z
   rw[aqX (aqG.mp hi).1]at hi'
   cases hi'
   exact absurd hc' hne
  ·rw[aqN (Ne.symm z)]at hi'
   exact w.dm h' i' hi' hc'
 nc:=w.nc
theorem akT{a:Addr}(ha:g.tbl[h]?=some a):g.W a:=.inl (aqM ha)
theorem Uo(k:Kd g H)(w:fU K aj g H M){a:Addr}{i:Inst}(ha:g.tbl[h]?=some a)(hi:M[h]?=some i)(hc:i.cls≠""){C dx:Addr}{fs':List (Str×V)}:Chg M g g H (upd H a (.ins C dx fs')) h f where
 gc:=⟨fun b o hb n=>by rw[upd_ne (fun z=>by subst z;exact n (akT ha))];exact hb,fun b hb=>by
  by_cases z:b=a
  ·subst z
   rw[upd_same]at hb
   cases hb
  ·rw[upd_ne z]at hb
   exact hb,⟨[],by simp⟩,fun _ z=>z,fun _ z=>.inl z,rfl,rfl⟩
 kd:=k.upd trivial
 tbl:=rfl
 ow:=fun _ _ z=>z
 oth:=fun b p hb _=>upd_ne fun z=>by
  subst z
  rw[w.tw h _ i ha hi hc]at hb
  cases hb
 ins:=fun j b i' hb _ _ ne=>upd_ne fun z=>by
  subst z
  exact ne (w.inj _ _ _ hb ha)
 nt:=fun j b i' hb hj hcj p z=>by
  rw[w.tw j b i' hb hj hcj]at z
  cases z
def Gh.own(g:Gh)(l:Addr)(h:Nat)(f:Str):Gh:={ g with ow:=fun b=>if b=l then some (h,f) else g.ow b }
theorem alj{l a:Addr}(hl:l∈g.tbl):(g.own l h f).W a↔g.W a:=by
 constructor
 ·rintro(z|z)
  ·exact .inl z
  ·by_cases y:a=l
   ·subst y
    exact .inl hl
   ·have z:(if a=l then some (h,f) else g.ow a)≠none:=z
    rw[if_neg y]at z
    exact .inr z
 ·rintro(z|z)
  ·exact .inl z
  ·refine .inr ?_
   show(if a=l then some (h,f) else g.ow a)≠none
   split
   ·exact fun q=>nomatch q
   ·exact z
theorem Ul(k:Kd g H)(w:fU K aj g H M){a l:Addr}{n:Nat}{i:Inst}(ha:g.tbl[h]?=some a)(hi:M[h]?=some i)(hc:i.cls≠"")(hl:g.tbl[n]?=some l)(hn:M[n]?=some ⟨"",[]⟩)(nl:g.ow l=none){C dx:Addr}{fs':List (Str×V)}:Chg M g (g.own l h f) H (upd H a (.ins C dx fs')) h f:=by
 have W':∀{b:Addr},(g.own l h f).W b↔g.W b:=fun {b}=>alj (aqM hl)
 have d:=Uo (f:=f) (C:=C) (dx:=dx) (fs':=fs') k w ha hi hc
 refine⟨⟨d.gc.keep,d.gc.dom,⟨[],by simp[Gh.own]⟩,fun b z=>W'.mpr z,fun b z=>.inl (W'.mp z),rfl,rfl⟩,⟨fun b z=>d.kd.ob b ?_,fun b z y=>d.kd.lo b z (W'.mp y),fun b z=>⟨fun y=>(d.kd.lc b z).1 (W'.mp y),(d.kd.lc b z).2⟩⟩,rfl,fun b p z=>?_,d.oth,d.ins,fun j b i' hb hj hcj p z=>?_⟩
 ·rcases z with z|z|z
  ·exact .inl (W'.mp z)
  ·exact .inr (.inl z)
  ·exact .inr (.inr z)
 ·show(if b=l then some (h,f) else g.ow b)=some p
  rw[if_neg (fun y=>by subst y;rw[nl]at z;cases z)]
  exact z
 ·have z:(if b=l then some (h,f) else g.ow b)=some p:=z
  by_cases y:b=l
  ·subst y
   cases w.inj _ _ _ hb hl
   rw[hn]at hj
   cases hj
   exact hcj rfl
  ·rw[if_neg y,w.tw j b i' hb hj hcj]at z
   cases z
theorem acz(k:Kd g H)(w:fU K aj g H M){l:Addr}{o':HO}(ho:g.ow l=some (h,f))(mo:Jc o'):Chg M g g H (upd H l o') h f where
 gc:=⟨fun b u hb n=>by rw[upd_ne (fun z=>by subst z;exact n (.inr (by rw[ho];exact fun y=>nomatch y)))];exact hb,fun b hb=>by
  by_cases z:b=l
  ·subst z
   rw[upd_same]at hb
   cases hb
  ·rw[upd_ne z]at hb
   exact hb,⟨[],by simp⟩,fun _ z=>z,fun _ z=>.inl z,rfl,rfl⟩
 kd:=k.upd mo
 tbl:=rfl
 ow:=fun _ _ z=>z
 oth:=fun b p hb ne=>upd_ne fun z=>by
  subst z
  rw[ho]at hb
  exact ne (aq0 hb).symm
 ins:=fun j b i' hb hj hcj ne=>upd_ne fun z=>by
  subst z
  rw[w.tw j _ i' hb hj hcj]at ho
  cases ho
 nt:=fun j b i' hb hj hcj p z=>by
  rw[w.tw j b i' hb hj hcj]at z
  cases z
theorem cO.len{fs:List (Str×V)}{gs:List (Str×iW)}(t:cO K aj g H h fs gs):fs.length=gs.length:=by
 induction t with
 |nil=>rfl
 |cons _ _ ih=>simp[ih]
end
def JN(M:Mo)(f:Str):Dat->Option iW
 |.dict [(.none,.int (.ofNat h))]=>(M[h]?).bind fun i=>i.fs.lookup f
 |_=>none
def gq(f:Str)(o:QF):QF:=fun M ρ=>(o M ρ).bind fun d=>match JN M f d with
 |some (.dat x)=>.ok x
 |_=>.bad
def bJ(f:Str)(o:QF):QF:=fun M ρ=>(o M ρ).bind fun d=>match JN M f d with
 |some (.dat x)=>.ok x
 |some (.lst _ xs)=>.ok (.list xs)
 |_=>.bad
theorem acs{M:Mo}{f:Str}{d:Dat}{fl:iW}(h:JN M f d=some fl):∃n i,d=obj n/\M[n]?=some i/\i.fs.lookup f=some fl:=by
 unfold JN at h
 split at h
 ·next n=>
  obtain⟨i,h1,h2⟩:=aqD.mp h
  exact⟨n,i,rfl,h1,h2⟩
 ·cases h
theorem lookup_mem{f:Str}{fl:iW}:∀{gs:List (Str×iW)},gs.lookup f=some fl->f∈gs.map (·.1)
 |[],h=>nomatch h
 |(g,y)::r,h=>by
  rw[aq6]at h
  cases hb:f==g with
  |true=>rw[eq_of_beq hb];simp
  |false=>
   rw[hb]at h
   exact aqJ _ (lookup_mem h)
section
variable{K:aqE}{aj:aO}{g:Gh}{H:Hp}{M:Mo}
theorem ZC(co:jy K aj)(w:fU K aj g H M){f:Str}{d:Dat}{fl:iW}{v:V}(h:JN M f d=some fl)(r:dW K g H v d):∃n i a C dx fs u,d=obj n/\M[n]?=some i/\i.fs.lookup f=some fl/\g.tbl[n]?=some a/\v=.ref a/\aj i.cls=some C/\H a=some (.ins C dx fs)/\cO K aj g H n fs i.fs/\Cls K C/\NoAttr K C f/\fs.lookup f=some u/\dR K aj g H n f u fl:=by
 obtain⟨n,i,rfl,h1,h2⟩:=acs h
 obtain⟨a,rfl,ha⟩:=JT r
 have hc:i.cls≠"":=fun z=>by
  rw[w.dm n i h1 z]at h2
  cases h2
 obtain⟨C,dx,fs,c1,c2,c3⟩:=w.ins n a i ha h1 hc
 obtain⟨u,l1,l2⟩:=c3.get h2
 obtain⟨k1,k2⟩:=co i.cls C f c1 (w.fd n i h1 f (lookup_mem h2))
 exact⟨n,i,a,C,dx,fs,u,rfl,h1,h2,ha,rfl,c1,c2,c3,k1,k2,l1,l2⟩
end
section
variable{X:Cx}{aj:aO}{W:WX}{o e:Expr}{es:List Expr}{fo:QF}{f m:Str}{pos apos:Pos}
theorem ah5(co:jy X.K aj)(ho:QW aj X W o fo)(hb:baseOk o=true):QE aj X W (.Attribute o f pos) (gq f fo):=
 PE.weak (pe_fld ho (lX hb)) fun σ H Q ⟨g,ρ,M,I,h⟩=>by
  refine tW.go I h.bnd fun d v H1 h1 e1 r1=>?_
  split at h1
  ·next x hx=>
   obtain⟨n,i,a,C,dx,fs,u,_,_,_,_,rfl,_,c2,_,k1,k2,l1,l2⟩:=ZC co (I.ex e1).wok hx r1
   exact⟨a,C,dx,fs,u,rfl,c2,k1,k2,l1,h1 u H1 e1 l2⟩
  ·exact False.elim h1
theorem aia(co:jy X.K aj)(ho:QW aj X W o fo)(hb:baseOk o=true):QW aj X W (.Attribute o f pos) (bJ f fo):=
 PE.weak (pe_fld ho (lX hb)) fun σ H Q ⟨g,ρ,M,I,h⟩=>by
  refine tW.go I h.bnd fun d v H1 h1 e1 r1=>?_
  split at h1
  ·next x hx=>
   obtain⟨n,i,a,C,dx,fs,u,_,_,_,_,rfl,_,c2,_,k1,k2,l1,l2⟩:=ZC co (I.ex e1).wok hx r1
   exact⟨a,C,dx,fs,u,rfl,c2,k1,k2,l1,h1 u H1 e1 (Rep.weak l2)⟩
  ·next xs hx=>
   obtain⟨n,i,a,C,dx,fs,u,_,_,_,_,rfl,_,c2,_,k1,k2,l1,l,us,rfl,s1,s2,s3,_⟩:=ZC co (I.ex e1).wok hx r1
   exact⟨a,C,dx,fs,_,rfl,c2,k1,k2,l1,h1 _ H1 e1 ⟨l,us,rfl,sq_of s1,s3⟩⟩
  ·exact False.elim h1
def Q8(X:Cx)(W:WX)(m:Str)(ta:TE)(t:TA):TE:=fun σ H Q=>ta σ H fun x H1=>∃(a C dx:Addr) (fs:List (Str×V)) (f:Addr) (fd:FuncData) (ps:List Str) (sp:Sp) (k:Nat),x=.ref a/\H1 a=some (.ins C dx fs)/\fs.lookup m=none/\Cls X.K C/\Meth X.K C m f/\Room k X.A/\Binds X.K fd ps []/\
 FnOk X.prog X.w X.K X.mg X.base (L2.CX X.prog X.w) k f fd ps sp/\t σ H1 fun vs H2=>sp (x::vs) H2 Q (WE W σ)
theorem Vr{M:Model}{A:Around}{E:Value->Shared->Prop}{s:Shared}{env:PySem.Env}{args:List Expr}{Q:Value->Shared->Prop}(hbase:baseOk o=true)(hs:args.all nst=true)(hz:args.length < 30)(hl:(apos.endLine==pos.line)=true)
  (h:wpAny M A (eval o env) (fun ov s₁=>∀pl:Sem Bool,wpAny M A (getMethod ov m pl) (fun fx s₂=>wpAny M A (callWith pos fx.1 fx.2 (backTo pos (starEach args env)) (backToKw pos (keywordEach [] env))) Q E s₂) E s₁) E s) :
  wpAny M A (eval (.Call (.Attribute o m apos) args [] pos) env) Q E s:=by
 have hform:methodCallForm (args.length+([]:List Keyword).length) (backTo pos (starEach args env)) (backToKw pos (keywordEach [] env))=true:=few hs hz
 have hpos:methodCallPos true o env apos pos=pure pos:=by unfold methodCallPos;simp[hl]
 rw[arm_eval_Call,lX hbase]
 refine wpAny_bind (wpAny_mono h (fun ov s₁ h₁=>?_) fun _ _ e=>e)
 refine wpAny_bind (wpAny_standAt ?_)
 unfold methodCall
 rw[hform]
 refine wpAny_bind (wpAny_holding ?_)
 refine wpAny_mono (h₁ _) (fun fx s₂ h₂=>?_) fun _ _ e=>e
 exact wpAny_bind (wpAny_of_eq hpos h₂)
theorem ZL{ta:TE}{t:TA}(tk:Takes X W)(ho:PE X o ta)(ha:PA X (e::es) t)(hb:baseOk o=true)(hs:(e::es).all nst=true)(hl:(apos.endLine==pos.line)=true)(hz:(e::es).length < 30):PE X (.Call (.Attribute o m apos) (e::es) [] pos) (Q8 X W m ta t):=by
 have hs':=hs
 rw[arb,aqF]at hs'
 refine⟨fun pins s σ H Q I h=>?_⟩
 refine Vr hb hs hz hl (thn (ho.run pins s σ H _ I h) fun u s1 ⟨x,G,J,rx,a,C,dx,fs,f,fd,ps,sp,k,ex,ea,l,c,hm,hr,hB,F,q⟩ pl=>?_)
 subst ex
 cases rx
 refine getmeth_ok J ea c hm l ?_
 refine PySem.W.callWith_K (first:=[.ref a]) (h₀:=X.base) I.ok.mod.kin hm.kp (thn (ha.run pos pins s1 σ G _ J q) fun us s2 ⟨vs,G2,J2,r,q2⟩=>⟨J2.kIn,?_⟩) (cI hs'.1 es) (star_any es hs'.2)
 exact run_fnS (us:=.ref a::us) (vs:=.ref a::vs) F hr hB (passAt tk σ) J2 (.cons rfl r) q2
theorem VP{ta:TE}(tk:Takes X W)(ho:PE X o ta)(hb:baseOk o=true)(hl:(apos.endLine==pos.line)=true):PE X (.Call (.Attribute o m apos) [] [] pos) (Q8 X W m ta tNil):=by
 refine⟨fun pins s σ H Q I h=>?_⟩
 refine Vr hb rfl (by decide) hl (thn (ho.run pins s σ H _ I h) fun u s1 ⟨x,G,J,rx,a,C,dx,fs,f,fd,ps,sp,k,ex,ea,l,c,hm,hr,hB,F,q⟩ pl=>?_)
 subst ex
 cases rx
 refine getmeth_ok J ea c hm l ?_
 exact PySem.W.callWith_K0 (first:=[.ref a]) J.kIn hm.kp (run_fnS (us:=[.ref a]) (vs:=[.ref a]) F hr hB (passAt tk σ) J (.cons rfl .nil) q)
def Dh(tb:List (Str×MV))(M:Mo):Dat->Option MV
 |.dict [(.none,.int (.ofNat h))]=>(M[h]?).bind fun i=>tb.lookup i.cls
 |_=>none
def aP(tb:List (Str×MV))(o:QF)(as:QA):QF:=fun M ρ=>(o M ρ).bind fun d=>match Dh tb M d with
 |some (.q _ m)=>(as M ρ).bind fun ds=>m M (d::ds)
 |_=>.bad
def cM(tb:List (Str×MV))(o:QF)(as:QA):GF:=fun M ρ=>((o M ρ).at M).bind fun d _=>match Dh tb M d with
 |some (.q _ m)=>((as M ρ).at M).bind fun ds _=>(m M (d::ds)).at M
 |some (.g _ m)=>((as M ρ).at M).bind fun ds _=>m M (d::ds)
 |none=>.bad
def GX(X:Cx)(aj:aO)(k:Nat)(m:Str)(n:Nat)(tb:List (Str×MV)):Prop:=∀c v,tb.lookup c=some v->bV X.prog X.w X.K X.mg X.base aj k c m v/\match v with
  |.q j _=>j=n
  |.g j _=>j=n
theorem GX.cls{k n:Nat}{tb:List (Str×MV)}(T:GX X aj k m n tb):∀c v,tb.lookup c=some v->aj c≠none:=fun c v h z=>by
 obtain⟨⟨C,f,c1,_⟩,_⟩:=T c v h
 rw[z]at c1
 cases c1
theorem S9{K:aqE}{g:Gh}{H:Hp}{M:Mo}{tb:List (Str×MV)}{d:Dat}{v:V}{mv:MV}(ht:∀c v,tb.lookup c=some v->aj c≠none)(w:fU K aj g H M)(h:Dh tb M d=some mv)(r:dW K g H v d):∃n i a C dx fs,d=obj n/\M[n]?=some i/\tb.lookup i.cls=some mv/\g.tbl[n]?=some a/\v=.ref a/\aj i.cls=some C/\H a=some (.ins C dx fs)/\cO K aj g H n fs i.fs:=by
 unfold Dh at h
 split at h
 ·next n=>
  obtain⟨i,h1,h2⟩:=aqD.mp h
  obtain⟨a,rfl,ha⟩:=JT r
  obtain⟨C,dx,fs,c1,c2,c3⟩:=w.ins n a i ha h1 fun z=>ht _ _ h2 (by rw[z];exact w.nc)
  exact⟨n,i,a,C,dx,fs,rfl,h1,h2,ha,rfl,c1,c2,c3⟩
 ·cases h
theorem Yb{K:aqE}{g:Gh}{H:Hp}{M:Mo}{n:Nat}{i:Inst}{fs:List (Str×V)}(w:fU K aj g H M)(hi:M[n]?=some i)(R:cO K aj g H n fs i.fs)(h:m∉aj.fl i.cls):fs.lookup m=none:=by
 refine R.no ?_
 cases hl:i.fs.lookup m with
 |none=>rfl
 |some x=>exact absurd (w.fd n i hi m (lookup_mem hl)) h
theorem acH{tb:List (Str×MV)}{as:QA}{n k:Nat}{t:TA}(hr:Room k X.A)(T:GX X aj k m n tb)(hn:∀M ρ ds,as M ρ=.ok ds->ds.length+1=n)(ht:∀σ H Q,M6 X.K aj W as σ H Q->t σ H Q)(σ:L2.St)(H:Hp)(Q:VK)(h:tQ X.K aj W (aP tb fo as) σ H Q):Q8 X W m (tW X.K aj W fo) t σ H Q:=by
 obtain⟨g,ρ,M,I,h⟩:=h
 refine tW.go I h.bnd fun d v H1 h1 e1 r1=>?_
 have I1:=I.ex e1
 split at h1
 ·next j mm hmv=>
  obtain⟨hd,i,a,C,dx,fs,rfl,hi,hl,ha,rfl,c1,c2,c3⟩:=S9 T.cls I1.wok hmv r1
  obtain⟨⟨C',f,cc,cl,me,nf,fd,ps,j',hj,hp,hB,F⟩,en⟩:=T _ _ hl
  have en:j=n:=en
  rw[c1]at cc
  cases cc
  refine⟨a,C,dx,fs,f,fd,ps,_,j',rfl,c2,Yb I1.wok hi c3 nf,cl,me,hr.mono hj,hB,F,ht σ H1 _ ⟨g,ρ,M,I1,?_⟩⟩
  have h2:=h1.bnd
  cases has:as M ρ with
  |exc x=>rw[has]at h2;exact qG.ex e1 h2
  |bad=>rw[has]at h2;exact False.elim h2
  |ok ds=>
   rw[has]at h2
   intro vs H2 e2 r2
   refine⟨by rw[hp,en,←hn M ρ ds has,aqS,r2.length],g,M,obj hd::ds,(I1.ex e2).kd,(I1.ex e2).wok,.cons (.obj ha) r2,?_⟩
   exact Out.sat.mono h2 (fun d k v H' e' r'=>k v H' ((e1.trans e2).trans e') r') fun x k H' c dd e' r'=>k H' c dd ((e1.trans e2).trans e') r'
 ·exact False.elim h1
theorem aho{tb:List (Str×MV)}{as:QA}{k:Nat}(tk:Takes X W)(hr:Room k X.A)(T:GX X aj k m ((e::es).length+1) tb)(ho:QW aj X W o fo)(ha:Dy aj X W (e::es) as)(hn:∀M ρ ds,as M ρ=.ok ds->ds.length=(e::es).length)(hb:baseOk o=true)(hs:(e::es).all nst=true)(hl:(apos.endLine==pos.line)=true)(hz:(e::es).length < 30) :
  QE aj X W (.Call (.Attribute o m apos) (e::es) [] pos) (aP tb fo as):=
 PE.weak (ZL tk ho ha hb hs hl hz) fun σ H Q h=>acH hr T (fun M ρ ds z=>by rw[hn M ρ ds z]) (fun _ _ _ z=>z) σ H Q h
theorem aeV{tb:List (Str×MV)}{k:Nat}(tk:Takes X W)(hr:Room k X.A)(T:GX X aj k m 1 tb)(ho:QW aj X W o fo)(hb:baseOk o=true)(hl:(apos.endLine==pos.line)=true) :
  QE aj X W (.Call (.Attribute o m apos) [] [] pos) (aP tb fo au):=
 PE.weak (VP tk ho hb hl) fun σ H Q h=>acH hr T (fun M ρ ds z=>by cases z;rfl) (fun σ H Q ⟨g,ρ,M,I,z⟩=>z [] H (Ex.refl H) .nil) σ H Q h
theorem aei{tb:List (Str×MV)}{as:QA}{n k:Nat}{t:TA}(hr:Room k X.A)(T:GX X aj k m n tb)(hn:∀M ρ ds,as M ρ=.ok ds->ds.length+1=n)(ht:∀σ H Q,M6 X.K aj W as σ H Q->t σ H Q)(σ:L2.St)(H:Hp)(Q:VK)(h:tE X.K aj W false (cM tb fo as) σ H Q):Q8 X W m (tW X.K aj W fo) t σ H Q:=by
 obtain⟨g,ρ,M,I,h⟩:=h
 have quiet:∀{x:dJ},gE X.K aj W false g H σ ρ x M->qG X.K aj W g H σ x:=fun {x} z H' c dd e r=>z H' g c dd (Gr.ex e) (I.ex e) r
 have h:=h.bnd
 refine⟨g,ρ,M,I,?_⟩
 cases ho:fo M ρ with
 |exc x=>rw[ho]at h;exact quiet h
 |bad=>rw[ho]at h;exact False.elim h
 |ok d=>
  rw[ho]at h
  intro v H1 e1 r1
  have I1:=I.ex e1
  have h:(match Dh tb M d with
   |some (.q _ m)=>((as M ρ).at M).bind fun ds _=>(m M (d::ds)).at M
   |some (.g _ m)=>((as M ρ).at M).bind fun ds _=>m M (d::ds)
   |none=>.bad).sat (fun d M'=>∀v H' g',Gr false g g' H H'->SInv X.K aj σ H' g' ρ M'->Rep X.K g' H' v d->Q v H') (gE X.K aj W false g H σ ρ):=h
  split at h
  ·next j mm hmv=>
   obtain⟨hd,i,a,C,dx,fs,rfl,hi,hl,ha,rfl,c1,c2,c3⟩:=S9 T.cls I1.wok hmv r1
   obtain⟨⟨C',f,cc,cl,me,nf,fd,ps,j',hj,hp,hB,F⟩,en⟩:=T _ _ hl
   have en:j=n:=en
   rw[c1]at cc
   cases cc
   refine⟨a,C,dx,fs,f,fd,ps,_,j',rfl,c2,Yb I1.wok hi c3 nf,cl,me,hr.mono hj,hB,F,ht σ H1 _ ⟨g,ρ,M,I1,?_⟩⟩
   have h2:=h.bnd
   cases has:as M ρ with
   |exc x=>rw[has]at h2;exact qG.ex e1 (quiet h2)
   |bad=>rw[has]at h2;exact False.elim h2
   |ok ds=>
    rw[has]at h2
    intro vs H2 e2 r2
    have e12:=e1.trans e2
    refine⟨by rw[hp,en,←hn M ρ ds has,aqS,r2.length],g,M,obj hd::ds,(I1.ex e2).kd,(I1.ex e2).wok,.cons (.obj ha) r2,?_⟩
    exact Out.sat.mono (Out.gK h2) (fun d k v H' e' r'=>k v H' g (Gr.ex (e12.trans e')) (I.ex (e12.trans e')) r') fun x k H' c dd e' r'=>k H' g c dd (Gr.ex (e12.trans e')) (I.ex (e12.trans e')) r'
  ·next j mm hmv=>
   obtain⟨hd,i,a,C,dx,fs,rfl,hi,hl,ha,rfl,c1,c2,c3⟩:=S9 T.cls I1.wok hmv r1
   obtain⟨⟨C',f,cc,cl,me,nf,fd,ps,j',hj,hp,hB,F⟩,en⟩:=T _ _ hl
   have en:j=n:=en
   rw[c1]at cc
   cases cc
   refine⟨a,C,dx,fs,f,fd,ps,_,j',rfl,c2,Yb I1.wok hi c3 nf,cl,me,hr.mono hj,hB,F,ht σ H1 _ ⟨g,ρ,M,I1,?_⟩⟩
   have h2:=h.bnd
   cases has:as M ρ with
   |exc x=>rw[has]at h2;exact qG.ex e1 (quiet h2)
   |bad=>rw[has]at h2;exact False.elim h2
   |ok ds=>
    rw[has]at h2
    intro vs H2 e2 r2
    have e12:=e1.trans e2
    refine⟨by rw[hp,en,←hn M ρ ds has,aqS,r2.length],g,M,obj hd::ds,(I1.ex e2).kd,(I1.ex e2).wok,.cons (.obj ha) r2,?_⟩
    exact aZ.sat.mono h2 (fun d M' k v H' g' c kd wk r'=>k v H' g' ((Gr.ex e12).trans c.gr) ((I.ex e12).call c kd wk) r') fun x M' k H' g' cc dd c kd wk r'=>k H' g' cc dd ((Gr.ex e12).trans c.gr) ((I.ex e12).call c kd wk) r'
  ·exact False.elim h
theorem ag5{tb:List (Str×MV)}{as:QA}{k:Nat}(tk:Takes X W)(hr:Room k X.A)(T:GX X aj k m ((e::es).length+1) tb)(ho:QW aj X W o fo)(ha:Dy aj X W (e::es) as)(hn:∀M ρ ds,as M ρ=.ok ds->ds.length=(e::es).length)(hb:baseOk o=true)(hs:(e::es).all nst=true)(hl:(apos.endLine==pos.line)=true)(hz:(e::es).length < 30) :
  GE aj X W false (.Call (.Attribute o m apos) (e::es) [] pos) (cM tb fo as):=
 PE.weak (ZL tk ho ha hb hs hl hz) fun σ H Q h=>aei hr T (fun M ρ ds z=>by rw[hn M ρ ds z]) (fun _ _ _ z=>z) σ H Q h
theorem aeB{tb:List (Str×MV)}{k:Nat}(tk:Takes X W)(hr:Room k X.A)(T:GX X aj k m 1 tb)(ho:QW aj X W o fo)(hb:baseOk o=true)(hl:(apos.endLine==pos.line)=true) :
  GE aj X W false (.Call (.Attribute o m apos) [] [] pos) (cM tb fo au):=
 PE.weak (VP tk ho hb hl) fun σ H Q h=>aei hr T (fun M ρ ds z=>by cases z;rfl) (fun σ H Q ⟨g,ρ,M,I,z⟩=>z [] H (Ex.refl H) .nil) σ H Q h
end
def dZ(x:Str):SF:=fun M ρ=>.exc ⟨x,[]⟩ ρ M
def Bo(x:Str)(fs:List Str)(as:QA):SF:=fun M ρ=>((as M ρ).at M).then ρ fun ds M'=>.exc ⟨x,(fs.zip ds).reverse⟩ ρ M'
section
variable{X:Cx}{aj:aO}{W:WX}{q:Bool}{x:Str}{pos p p1:Pos}{k:Nat}
theorem afx(hc:X.calm=true)(tk:Takes X W)(hg:Gl X x)(hd:(x==("__debug__" : Str))=false)(g:bf X.prog X.w X.K X.mg X.base aj k x .exc):SE aj X W q (.Raise (some (.Call (.Name x p) [] [] p1)) none pos) (dZ x):=by
 obtain⟨C,g1,g2,g3,g4,g5,g6⟩:=g
 exact PS.weak (ps_raise hc tk (Ear.afM PySem.F.excBase_ValueError g3 g1 g4 (raises_own g5 g6) hg hd)) fun D σ H ⟨g,ρ,M,I,z⟩=>z σ H g (.ref C) none Gr.refl I ⟨C,g2,rfl,.inl ⟨rfl,rfl⟩⟩
theorem kJ.gr{K:aqE}{g g':Gh}{H H':Hp}{q:Bool}(r:Gr q g g' H H')(k:Kd g H){fs:List (Str×V)}{gs:List (Str×Dat)}(h:kJ K g H fs gs):kJ K g' H' fs gs:=by
 induction h with
 |nil=>exact .nil
 |cons z _ ih=>exact .cons (z.gr r k) ih
theorem kJ.snoc{K:aqE}{g:Gh}{H:Hp}{f:Str}{v:V}{d:Dat}(z:Rep K g H v d){fs:List (Str×V)}{gs:List (Str×Dat)}(h:kJ K g H fs gs):kJ K g H (fs++[(f,v)]) (gs++[(f,d)]):=by
 induction h with
 |nil=>exact .cons z .nil
 |cons y _ ih=>exact .cons y ih
theorem adt{K:aqE}{g:Gh}{H:Hp}:∀{fs:List Str} {vs:List V} {ds:List Dat},aH K g H vs ds->kJ K g H (fs.zip vs).reverse (fs.zip ds).reverse
 |[],_,_,_=>.nil
 |_::_,_,_,.nil=>.nil
 |f::fs,_,_,.cons z t=>by
  rw[arF,arF,arI,arI]
  exact(adt t).snoc z
theorem adB{e:Expr}{es:List Expr}{fs:List Str}{as:QA}(hc:X.calm=true)(tk:Takes X W)(hr:Room k X.A)(hg:Gl X x)(hd:(x==("__debug__" : Str))=false)(g:bf X.prog X.w X.K X.mg X.base aj k x (.exi fs))(ha:Dy aj X W (e::es) as)
  (hs:(e::es).all nst=true) (hn:∀M ρ ds,as M ρ=.ok ds->ds.length=fs.length) (hz:fs.length<=1000):SE aj X W q (.Raise (some (.Call (.Name x p) (e::es) [] p1)) none pos) (Bo x fs as):=by
 obtain⟨C,fI,fd,ps,g1,g2,g3,g4,g5,hk,hp,hB,F⟩:=g
 have hs':=hs
 rw[arb,aqF]at hs'
 refine PS.weak (ps_raise hc tk (pmk_oex g3 g4 g5 F (hr.mono hk) hB .nil pass0 hg g1 ha hd (cI hs'.1 es) (star_any es hs'.2))) fun D σ H ⟨g,ρ,M,I,z⟩=>?_
 refine⟨g,ρ,M,I,?_⟩
 unfold Bo at z
 cases has:as M ρ with
 |exc y=>rw[has]at z;exact fun H' c dd e r=>z σ H' g c dd (Gr.ex e) (I.ex e) r.fr
 |bad=>rw[has]at z;exact False.elim z
 |ok ds=>
  rw[has]at z
  intro vs H1 e1 r1
  have hl:vs.length=fs.length:=by rw[r1.length,hn M ρ ds has]
  refine⟨by omega,fun a na=>⟨a,vs++[],rfl,by simpa using hl,upd_same,fun dx H' nd kp dm ha' hd'=>?_⟩⟩
  have ne:dx≠a:=fun z=>by
   subst z
   rw[upd_same]at nd
   cases nd
  rw[upd_ne ne]at nd
  refine⟨rfl,dx,_,ha',hd',nd,?_⟩
  have kp':∀b o,H1 b=some o->(upd (del H' a) dx (.xd (fs.zip (vs++[])).reverse)) b=some o:=fun b o hb=>by
   have nb:b≠a:=fun z=>by subst z;rw[na]at hb;cases hb
   have nd':b≠dx:=fun z=>by subst z;rw[nd]at hb;cases hb
   rw[upd_ne nd',del_ne nb]
   exact kp b o nb (by rw[upd_ne nb];exact hb)
  have ex:Ex H1 (upd (del H' a) dx (.xd (fs.zip (vs++[])).reverse)):=fun b o hb=>kp' b o hb
  have I1:=I.ex e1
  refine z σ _ g (.ref C) (some dx) (Gr.ex (e1.trans ex)) (I1.ex ex) ⟨C,g2,rfl,.inr ⟨dx,_,rfl,upd_same,?_⟩⟩
  rw[ars]
  have:=(adt (fs:=fs) r1).gr (Gr.ex (q:=true) ex) I1.kd
  rw[ars]at this
  exact kJ.less (g:=g) (g':=g.fr) rfl (vX g) this
end
section
variable{P:Program}{w:World}{K:aqE}{mg:Str->Option Value}{base:Heap}{C f:Addr}{fd:FuncData}{qual:Str}{st:Stmt}
theorem vis_par{N ps:List Str}{sc:Scope}(S:FnScope N ps sc){y:Str}(h:y∈ps):Vis sc y:=(S.par y h).elim (fun z=>.inl z) fun z=>.inr (.inl z)
theorem adI{s a1 a2 a3 f1 f2 f3:Str}{p1 p2 p3 p4 p5 p6 p7 p8 p9 p10 p11 p12:Pos}(F:L2.Fun K "__init__" qual st f fd)(S:FnScope [s,a1,a2,a3] [s,a1,a2,a3] (defScope st))(T:OexC K C)
  (hb:defBody st=[.Assign [.Attribute (.Name s p1) f1 p2] (.Name a1 p3) p4,.Assign [.Attribute (.Name s p5) f2 p6] (.Name a2 p7) p8,.Assign [.Attribute (.Name s p9) f3 p10] (.Name a3 p11) p12])
  (dz:∀y∈[s,a1,a2,a3],(y==("__debug__" : Str))=false/\(y==("__classdict__" : Str))=false) (n1:PySem.W.findIn K (.ref C) f1=some none) (n2:PySem.W.findIn K (.ref C) f2=some none) (n3:PySem.W.findIn K (.ref C) f3=some none) :
  FnOk P w K mg base CX0 1 f fd [s,a1,a2,a3] (aeO C [f1,f2,f3]):=by
 refine F.ok S (fun vs H Q E h=>?_) (fun cdv A outer s0 H vs Q E hr h=>?_)
 ·obtain⟨a,xs,rfl,hl,_⟩:=h
  simp[hl]
 ·obtain⟨a,xs,rfl,hl,ha,q⟩:=h
  match xs,hl with
  |[x,y,z],_=>
  rw[hb]
  have v0:=vis_par S (y:=s) (by simp)
  have v1:=vis_par S (y:=a1) (by simp)
  have v2:=vis_par S (y:=a2) (by simp)
  have v3:=vis_par S (y:=a3) (by simp)
  obtain⟨c0,k0⟩:=dz s (by simp)
  obtain⟨c1,k1⟩:=dz a1 (by simp)
  obtain⟨c2,k2⟩:=dz a2 (by simp)
  obtain⟨c3,k3⟩:=dz a3 (by simp)
  refine⟨_,pss_cons (ps_ost (pe_var (i:=0) rfl v0 c0 k0) (pe_var (i:=1) rfl v1 c1 k1)) (pss_cons (ps_ost (pe_var (i:=0) rfl v0 c0 k0) (pe_var (i:=2) rfl v2 c2 k2)) (pss_one (ps_ost (pe_var (i:=0) rfl v0 c0 k0) (pe_var (i:=3) rfl v3 c3 k3)))),?_⟩
  refine⟨_,rfl,_,rfl,a,C,rfl,T,n1,.inl ⟨ha,fun dx nd ne=>?_⟩⟩
  refine⟨_,rfl,_,rfl,a,C,rfl,T,n2,.inr ⟨dx,[(f1,x)],upd_same,(by rw[upd_ne ne];exact upd_same),(show 1<=900 by decide),?_⟩⟩
  refine⟨_,rfl,_,rfl,a,C,rfl,T,n3,.inr ⟨dx,_,(by rw[upd_ne ne.symm];exact upd_same),upd_same,(show 2<=900 by decide),?_⟩⟩
  refine q dx _ nd (fun b o hb hB=>?_) (fun b hB=>?_) (by rw[upd_ne ne.symm,upd_ne ne.symm];exact upd_same) upd_same
  ·have hbd:b≠dx:=ne_of_none hB nd
   rw[upd_ne hbd,upd_ne hbd,upd_ne hb,upd_ne hbd]
   exact hB
  ·by_cases e:b=dx
   ·rw[e];exact nd
   ·by_cases e2:b=a
    ·subst e2
     rw[upd_ne e,upd_ne e,upd_same]at hB
     cases hB
    ·rw[upd_ne e,upd_ne e,upd_ne e2,upd_ne e]at hB
     exact hB
end
structure Cl where
 c:Value
 nm:Option Nat
 ts:Addr->Value->Option Addr->TS
def ame(D:Ends)(i:Nat):Ends:={ nx:=fun τ G=>D.nx (τ.set i none) G,rt:=D.rt,bk:=fun τ G=>D.bk (τ.set i none) G,ct:=fun τ G=>D.ct (τ.set i none) G }
def ZG(K:aqE)(Wo:WX)(D:Ends):List Cl->WX
 |[]=>Wo
 |l::r=>fun cls d τ G=>∃b,PySem.W.exmOne K cls l.c=some b/\(b=true->∀a,G a=none->(match l.nm with
   |none=>l.ts a cls d D τ G
   |some i=>l.ts a cls d (ame D i) (τ.set i (some (.ref a))) G))/\(b=false->ZG K Wo D r cls d τ G)
inductive Az(X:Cx):List ExceptHandler->List Cl->Prop
 |nil:Az X [] []
 |one {x:Str} {l:Cl} {s0:Stmt} {su:List Stmt} {np cp:Pos} {hds:List ExceptHandler} {ls:List Cl} (hc:Names X x l.c) (hn:l.nm=none)
   (hsu:∀(a:Addr) (oe:Obj) (cls:Value) (d:Option Addr) (pn:List (Addr×Obj)),Zc cls d oe->(∃vs,oe.data=.fields vs)->PSs (X.suite a ((a,oe)::pn)) (s0::su) (l.ts a cls d)) (r:Az X hds ls) :
   Az X (.ExceptHandler (some (.Name x np)) none (s0::su) cp::hds) (l::ls)
 |as {x n:Str} {i:Nat} {l:Cl} {s0:Stmt} {su:List Stmt} {np cp:Pos} {hds:List ExceptHandler} {ls:List Cl} (hc:Names X x l.c) (hn:l.nm=some i) (hi:X.N[i]?=some n) (hl:X.env.kindOf n=some .local)
   (hsu:∀(a:Addr) (oe:Obj) (cls:Value) (d:Option Addr) (pn:List (Addr×Obj)),Zc cls d oe->(∃vs,oe.data=.fields vs)->PSs (X.suite a ((a,oe)::pn)) (s0::su) (l.ts a cls d)) (r:Az X hds ls) :
   Az X (.ExceptHandler (some (.Name x np)) (some n) (s0::su) cp::hds) (l::ls)
section
variable{X:Cx}{body:List Stmt}{h0:ExceptHandler}{hds:List ExceptHandler}{ls:List Cl}{pos:Pos}{tb:WX->TS}{Wo:WX}
theorem ag6(hs:X.stack=X.env::X.outer)(hf:X.env.frame=some X.env.locals)(hN:X.N.Nodup)(tk:Takes X Wo)
  (hb:∀(W:WX) (pn:List (Addr×Obj)) (xe:Value->Shared->Prop),Takes (X.tr pn xe) W->PassesOwn (model X.prog X.w) X.A X.env xe->PSs (X.tr pn xe) body (tb W))
  (hh:Az X (h0::hds) ls):PS X (.Try body (h0::hds) [] [] pos) (fun D σ H=>tb (ZG X.K Wo D ls) D σ H):=by
 constructor
 intro pins s σ H D I h
 have ok:=I.ok
 have frm:X.A.frames=some (X.env::X.outer):=by rw[ok.frames,hs]
 have run:=(hb (ZG X.K Wo D ls) (X.pn++pins) (fun e t₁=>wpAny (model X.prog X.w) X.A (noteFrame e X.env) (fun _ t₂=>wpAny (model X.prog X.w) X.A (setFlight e none) (fun _ t₃=>wpAny (model X.prog X.w) X.A (handleBy e X.env (h0::hds)) (SP X pins D) X.xe t₃) X.xe t₂) X.xe t₁) (fun u t xx=>by
  obtain⟨a,B,sI,pins2,τ,G,cls,d,rfl,J2,nb,up,sky,na,os,ag,w⟩:=xx
  have J:Inv X pins τ G sI:=J2.ofTry ok
  have sky2:Sky B (X.env::X.outer) a (Zc cls d) X.env.locals t.heap:=by
   rw[←hs]
   exact sky
  show wpAny (model X.prog X.w) X.A (noteFrame (.ref a) X.env) _ _ _
  refine Sky.land Zc.steady frm hf sky2 ?_
  intro h3 fl3 up3
  have J3:Inv X pins τ G { t with heap:=h3 }:=J.landed nb fl3.1 (up.trans up3) os ag
  obtain⟨oe3,vs3,he3,hz3,hd3⟩:=fl3.there
  have notF:a∉frs (X.env::X.outer):=fun hm=>by
   obtain⟨_,o,eo,hnf⟩:=Heap.FunFrames.mem fl3.2.2.1 hm
   rw[he3]at eo
   cases eo
   exact hnf _ hd3
  have nL:a≠X.env.locals:=fun z=>notF (List.mem_filterMap.mpr ⟨X.env,aqK,(by rw[hf,z])⟩)
  have nF:a∉X.fs:=fun hm=>by
   obtain⟨e,he,q⟩:=List.mem_filterMap.mp hm
   exact notF (List.mem_filterMap.mpr ⟨e,aqJ _ he,q⟩)
  have S3:=J3.suite he3 hd3 na nL nF
  have look:PySem.W.Looks (model X.prog X.w) h3 (typeOf (.ref a)) cls:=fun A Q E s k q=>wpAny_typeOf_ref (k _ _ he3) (by rw[hz3.1];exact q)
  have named:∀{x:Str} {c:Value} {np:Pos} {Q:Value->Shared->Prop} {E:Value->Shared->Prop},Names X x c->Q c { t with heap:=h3 }->wpAny (model X.prog X.w) (X.A.mark (some (.ref a))) (eval (.Name x np) X.env) Q E { t with heap:=h3 }:=by
   intro x c np Q E hc q
   obtain⟨hg,hdb,hm⟩:=hc
   rcases hm with hm|⟨hm,hv,hnn⟩
   ·exact ld_glob (X:=X.suite a ((a,oe3)::(X.pn++pins))) S3 hg hm q hdb
   ·exact ld_blt (X:=X.suite a ((a,oe3)::(X.pn++pins))) S3 hg hm hv q hnn hdb
  have all:∀{hds2:List ExceptHandler} {ls2:List Cl},Az X hds2 ls2->ZG X.K Wo D ls2 cls d τ G->wpAny (model X.prog X.w) X.A (handleBy (.ref a) X.env hds2) (SP X pins D) X.xe { t with heap:=h3 }:=by
   intro hds2 ls2 hk
   induction hk with
   |nil=>
    intro w
    refine wpAny_handleBy_nil ?_
    obtain⟨k1,k2,k3,oe,vs,T,oT,ts2,he,hz,hd,h1,hr⟩:=id fl3
    unfold PySem.passOn
    refine wpAny_bind (wpAny_field he hd h1 ?_)
    have nT:¬((Value.ref T==Value.none)=true):=by simp
    rw[if_neg nT]
    have fin:wpAny (model X.prog X.w) X.A (setFlight (.ref a) X.env.frame) (fun _ s4=>wpAny (model X.prog X.w) X.A (throw (.ref a):Sem Flow) (SP X pins D) X.xe s4) X.xe { t with heap:=h3 }:=by
     rw[hf]
     refine HandSPX.setFlight_upZ fl3 ?_
     intro h4 hh4 up4
     refine wpAny_throw (tk _ _ ?_)
     exact⟨a,B,sI,pins,τ,G,cls,d,rfl,J,nb,(up.trans up3).trans up4,.inr (.inr (by rw[hs];exact hh4)),na,os,ag,w⟩
    first
     |exact wpAny_bind (wpAny_pure (wpAny_bind fin))
     |exact wpAny_bind fin
   | @one x l s0 su np cp hds3 ls3 hc hn hsu r ih=>
    intro w
    obtain⟨b,hb1,yes,no⟩:=w
    rw[hn]at yes
    have LM:=PySem.W.exm_one (M:=model X.prog X.w) J3.kIn look hb1
    refine wpAny_handleBy_cons (codeAny_handlers_test ?_) (by intro q;cases q)
    refine named hc (LM.here ?_)
    cases b with
    |false=>exact ih (no rfl)
    |true=>
     refine codeAny_handlers_suite ?_
     refine HandSPX.lands_againZ fl3 ?_
     intro h4 fl4 up4
     have J4:Inv X pins τ G { t with heap:=h4 }:=J.landed nb fl4.1 ((up.trans up3).trans up4) os ag
     obtain⟨oe4,vs4,he4,hz4,hd4⟩:=fl4.there
     have S4:=J4.suite he4 hd4 na nL nF
     refine wpAny_mono ((hsu a oe4 cls d (X.pn++pins) hz4 ⟨_,hd4⟩).run [] _ _ G _ S4 (yes rfl a na)) ?_ (fun _ _ z=>False.elim z)
     intro f s6 sp6
     cases f with
     |ret u=>
      obtain⟨v6,τ6,G6,S6,r6,q6⟩:=sp6
      exact⟨_,_,_,S6.unsuite ok,r6,q6⟩
     |next=>
      obtain⟨τ6,G6,S6,q6⟩:=sp6
      exact⟨_,_,S6.unsuite ok,q6⟩
     |brk=>
      obtain⟨τ6,G6,S6,q6⟩:=sp6
      exact⟨_,_,S6.unsuite ok,q6⟩
     |cont=>
      obtain⟨τ6,G6,S6,q6⟩:=sp6
      exact⟨_,_,S6.unsuite ok,q6⟩
   | @as x n i l s0 su np cp hds3 ls3 hc hn hi hl hsu r ih=>
    intro w
    obtain⟨b,hb1,yes,no⟩:=w
    rw[hn]at yes
    have LM:=PySem.W.exm_one (M:=model X.prog X.w) J3.kIn look hb1
    refine wpAny_handleBy_cons (codeAny_handlers_test ?_) (by intro q;cases q)
    refine named hc (LM.here ?_)
    cases b with
    |false=>exact ih (no rfl)
    |true=>
     refine codeAny_handlers_suite_as ?_
     refine HandSPX.lands_againZ fl3 ?_
     intro h4 fl4 up4
     have J4:Inv X pins τ G { t with heap:=h4 }:=J.landed nb fl4.1 ((up.trans up3).trans up4) os ag
     obtain⟨oe4,vs4,he4,hz4,hd4⟩:=fl4.there
     have S4:=J4.suite he4 hd4 na nL nF
     refine store_ok (X:=X.suite a ((a,oe4)::(X.pn++pins))) (v:=.ref a) S4 hN hi (.inl hl) rfl ?_ (.inr hl)
     intro s5 S5
     refine wpAny_mono ((hsu a oe4 cls d (X.pn++pins) hz4 ⟨_,hd4⟩).run [] s5 _ G _ S5 (yes rfl a na)) ?_ (fun _ _ z=>False.elim z)
     intro f s6 sp6
     have bye:∀{τ6:L2.St} {G6:Hp} {Q:Shared->Prop},Inv (X.suite a ((a,oe4)::(X.pn++pins))) [] τ6 G6 s6->(∀s7,Inv X pins (τ6.set i none) G6 s7->Q s7)->
       wpAny (model X.prog X.w) X.A (do bindName X.env n .none;unbindBehindTheSuite X.env n cp) (fun _ s7=>Q s7) X.xe s6:=fun S6 hq=>gone_ok (S6.unsuite ok) hN hi hl hq
     cases f with
     |ret u=>
      obtain⟨v6,τ6,G6,S6,r6,q6⟩:=sp6
      exact bye S6 fun s7 J7=>⟨_,_,_,J7,r6,q6⟩
     |next=>
      obtain⟨τ6,G6,S6,q6⟩:=sp6
      exact bye S6 fun s7 J7=>⟨_,_,J7,q6⟩
     |brk=>
      obtain⟨τ6,G6,S6,q6⟩:=sp6
      exact bye S6 fun s7 J7=>⟨_,_,J7,q6⟩
     |cont=>
      obtain⟨τ6,G6,S6,q6⟩:=sp6
      exact bye S6 fun s7 J7=>⟨_,_,J7,q6⟩
  exact all hh w) PassesOwn.looking).run [] s σ H D (I.toTry _) h
 refine wpAny_Try_except (wpAny_mono run ?_ (fun _ _ z=>z))
 intro f s1 sp1
 cases f with
 |ret u=>
  obtain⟨v,τ,G,J2,r,q⟩:=sp1
  exact⟨v,τ,G,J2.ofTry ok,r,q⟩
 |next=>
  obtain⟨τ,G,J2,q⟩:=sp1
  exact wpAny_execs_nil ⟨τ,G,J2.ofTry ok,q⟩
 |brk=>
  obtain⟨τ,G,J2,q⟩:=sp1
  exact⟨τ,G,J2.ofTry ok,q⟩
 |cont=>
  obtain⟨τ,G,J2,q⟩:=sp1
  exact⟨τ,G,J2.ofTry ok,q⟩
end
inductive Di where
 |con (d:Dat)|fld (f:Str)|flds (fs:List Str)
def Xz(y:Str)(x:dJ)(f:Str):Option Dat:=match x.cls==y with
 |true=>(x.fs.lookup f).bind fun d=>match lf d with
  |true=>some d
  |false=>none
 |false=>none
def Qy(y:Str)(x:dJ):List Str->Option (List Dat)
 |[]=>some []
 |f::fs=>(Xz y x f).bind fun d=>(Qy y x fs).bind fun ds=>some (d::ds)
def Zj(y:Str)(x:dJ):Di->Option Dat
 |.con d=>some d
 |.fld f=>Xz y x f
 |.flds fs=>(Qy y x fs).bind fun ds=>some (.tuple ds)
def Dt(y:Str)(x:dJ):List (Nat×Di)->Env->Option Env
 |[],ρ=>some ρ
 |(j,e)::r,ρ=>(Zj y x e).bind fun d=>Dt y x r (ρ.set j (some (.dat d)))
structure Hd where
 y:Str
 tk:Str->Option Bool
 nm:Option Nat
 st:List (Nat×Di)
def Tt(ρ:Env):Option Nat->Env
 |none=>ρ
 |some i=>ρ.set i none
def aby(ρ:Env):Option Nat->Bool
 |none=>true
 |some i=>decide (i < ρ.length)
def hdl:List Hd->dJ->Env->Mo->rZ
 |[],x,ρ,M=>.exc x ρ M
 |h::r,x,ρ,M=>match h.tk x.cls with
  |some true=>match aby ρ h.nm with
   |true=>match Dt h.y x h.st (Tt ρ h.nm) with
    |some ρ2=>.next (Tt ρ2 h.nm) M
    |none=>.bad
   |false=>.bad
  |some false=>hdl r x ρ M
  |none=>.bad
def Ua(f:SF)(hs:List Hd):SF:=fun M ρ=>match f M ρ with
 |.exc x ρ' M'=>hdl hs x ρ' M'
 |o=>o
structure XIn(K:aqE)(aj:aO)(σ:L2.St)(H:Hp)(g:Gh)(ρ:Env)(M:Mo)(x:dJ)(a:Addr)(cls:Value)(d:Option Addr)(i:Option Nat):Prop where
 inv:SInv K aj σ H g ρ M
 xr:qd K aj g.fr H x cls d
 sl:∀j,i=some j->σ[j]?=some (some (.ref a))
section
variable(K:aqE)(aj:aO)(a:Addr)(cls:Value)(d:Option Addr)(i:Option Nat)
def tU(f:dJ->Option Dat):TE:=fun σ H Q=>∃g ρ M x z,XIn K aj σ H g ρ M x a cls d i/\f x=some z/\∀v H',Ex H H'->Rep K g H' v z->Q v H'
def tUA(f:dJ->Option (List Dat)):TA:=fun σ H Q=>∃g ρ M x z,XIn K aj σ H g ρ M x a cls d i/\f x=some z/\∀v H',Ex H H'->aH K g H' v z->Q v H'
def tSu(y:Str)(st:List (Nat×Di)):TS:=fun D σ H=>∃g ρ M x ρ2,XIn K aj σ H g ρ M x a cls d i/\Dt y x st ρ=some ρ2/\(∀p∈st,i≠some p.1)/\∀σ' H',Ex H H'->SInv K aj σ' H' g ρ2 M->D.nx σ' H'
end
section
variable{K:aqE}{aj:aO}{a:Addr}{cls:Value}{d:Option Addr}{i:Option Nat}{σ:L2.St}{H H':Hp}{g:Gh}{ρ:Env}{M:Mo}{x:dJ}
theorem kJ.ex{fs:List (Str×V)}{gs:List (Str×Dat)}(e:Ex H H')(k:Kd g H)(h:kJ K g H fs gs):kJ K g H' fs gs:=h.gr (Gr.ex (q:=true) e) k
theorem qd.ex{c:Value}{dd:Option Addr}(e:Ex H H')(k:Kd g H)(h:qd K aj g H x c dd):qd K aj g H' x c dd:=by
 obtain⟨C,h1,h2,h3⟩:=h
 exact⟨C,h1,h2,h3.imp id fun⟨b,fs,e1,e2,e3⟩=>⟨b,fs,e1,e _ _ e2,e3.ex e k⟩⟩
theorem XIn.ex(e:Ex H H')(h:XIn K aj σ H g ρ M x a cls d i):XIn K aj σ H' g ρ M x a cls d i:=⟨h.inv.ex e,h.xr.ex e h.inv.kd.fr,h.sl⟩
theorem kJ.get{f:Str}{z:Dat}{fs:List (Str×V)}{gs:List (Str×Dat)}(h:kJ K g H fs gs)(e:gs.lookup f=some z):∃v,fs.lookup f=some v/\Rep K g H v z:=by
 induction h with
 |nil=>cases e
 | @cons f' v d' _ _ r _ ih=>
  rw[aq6]at e
  rw[aq6]
  cases hb:f==f' with
  |true=>
   rw[hb]at e
   cases e
   exact⟨v,rfl,r⟩
  |false=>
   rw[hb]at e
   exact ih e
end
section
variable{X:Cx}{aj:aO}{a C:Addr}{oe:Obj}{cls:Value}{d:Option Addr}{pn:List (Addr×Obj)}{y n:Str}{pos p:Pos}{j:Nat}
theorem adS{e:Expr}{z:Dat}{i:Option Nat}{t:TE}(h:PE (X.suite a ((a,oe)::pn)) e t)(ht:∀σ H Q,tU X.K aj a cls d i (fun _=>some z) σ H Q->t σ H Q):PE (X.suite a ((a,oe)::pn)) e (tU X.K aj a cls d i fun _=>some z):=PE.weak h ht
theorem adF{f:Str}(hC:aj y=some C)(T:XfC X.K C)(hno:PySem.W.findIn X.K (.ref C) f=some none)(hz:Zc cls d oe)(hf:∃vs,oe.data=.fields vs)(hN:X.N[j]?=some n)(hv:Vis X.env.scope n)(hd:(n==("__debug__" : Str))=false)(hcd:(n==("__classdict__" : Str))=false) :
  PE (X.suite a ((a,oe)::pn)) (.Attribute (.Name n p) f pos) (tU X.K aj a cls d (some j) fun x=>Xz y x f):=by
 refine PE.weak (pe_xf T hno hz hf (pe_var (i:=j) (X:=X.suite a ((a,oe)::pn)) hN hv hd hcd)) fun σ H Q ⟨g,ρ,M,x,z,I,e,k⟩=>?_
 have e:Xz y x f=some z:=e
 unfold Xz at e
 split at e
 ·next ey=>
  obtain⟨z',l,e⟩:=aqD.mp e
  split at e
  ·next hl=>
   cases e
   obtain⟨C',c1,c2,c3⟩:=I.xr
   rw[eq_of_beq ey,hC]at c1
   cases c1
   rcases c3 with⟨c3,_⟩|⟨b,fs,c3,c4,c5⟩
   ·rw[c3]at l
    cases l
   ·obtain⟨v,l1,l2⟩:=c5.get l
    exact⟨.ref a,I.sl j rfl,rfl,c2,b,fs,v,c3,c4,l1,k v H (Ex.refl H) (Rep.free (g:=g.fr) (g':=g) rfl hl l2)⟩
  ·cases e
 ·cases e
theorem ac3{i:Option Nat}:PA (X.suite a ((a,oe)::pn)) [] (tUA X.K aj a cls d i fun _=>some []):=PA.weak pa_nil fun σ H Q ⟨g,ρ,M,x,z,I,e,k⟩=>by
 cases e
 exact k [] H (Ex.refl H) .nil
theorem agU{e:Expr}{es:List Expr}{i:Option Nat}{f:dJ->Option Dat}{fr:dJ->Option (List Dat)}(h:PE (X.suite a ((a,oe)::pn)) e (tU X.K aj a cls d i f))(hr:PA (X.suite a ((a,oe)::pn)) es (tUA X.K aj a cls d i fr))(hs:nst e=true) :
  PA (X.suite a ((a,oe)::pn)) (e::es) (tUA X.K aj a cls d i fun x=>(f x).bind fun z=>(fr x).bind fun zs=>some (z::zs)):=by
 refine PA.weak (pa_cons h hr (cI hs es)) fun σ H Q ⟨g,ρ,M,x,z,I,e,k⟩=>?_
 obtain⟨z1,e1,e⟩:=aqD.mp e
 obtain⟨z2,e2,e⟩:=aqD.mp e
 cases e
 exact⟨g,ρ,M,x,z1,I,e1,fun v H1 x1 r1=>⟨g,ρ,M,x,z2,I.ex x1,e2,fun vs H2 x2 r2=>k (v::vs) H2 (x1.trans x2) (.cons (r1.ex x2 (I.ex x1).inv.kd) r2)⟩⟩
theorem adU{es:List Expr}{kk:Nat}{i:Option Nat}{fr:dJ->Option (List Dat)}(hr:PA (X.suite a ((a,oe)::pn)) es (tUA X.K aj a cls d i fr))(hn:∀x zs,fr x=some zs->zs.length<=100000):PE (X.suite a ((a,oe)::pn)) (.Tuple es kk pos) (tU X.K aj a cls d i fun x=>(fr x).bind fun zs=>some (.tuple zs)):=by
 refine PE.weak (pe_tup hr) fun σ H Q ⟨g,ρ,M,x,z,I,e,k⟩=>?_
 obtain⟨zs,e1,e⟩:=aqD.mp e
 cases e
 refine⟨g,ρ,M,x,zs,I,e1,fun vs H1 x1 r1=>⟨sz_of (by rw[r1.length];exact hn x zs e1),fun p np=>?_⟩⟩
 exact k (.ref p) _ (x1.trans (Ex.new np)) (.tup (st_of upd_same) (r1.ex (Ex.new np) (I.ex x1).inv.kd))
theorem VG{x:dJ}:∀{fs:List Str} {zs:List Dat},Qy y x fs=some zs->zs.length=fs.length
 |[],zs,h=>by cases h;rfl
 |f::fs,zs,h=>by
  rw[Qy]at h
  obtain⟨z1,e1,h⟩:=aqD.mp h
  obtain⟨z2,e2,h⟩:=aqD.mp h
  cases h
  simp[VG e2]
theorem ajH{i:Option Nat}{se:Di}{st:List (Nat×Di)}{D D':Ends}{σ:L2.St}{H:Hp}(h:tSu X.K aj a cls d i y ((j,se)::st) D σ H)(nx:∀σ' H',tSu X.K aj a cls d i y st D σ' H'->D'.nx σ' H') :
  tAsg (tU X.K aj a cls d i fun x=>Zj y x se) (gName j) D' σ H:=by
 obtain⟨g,ρ,M,x,ρ2,I,e,nj,k⟩:=h
 rw[Dt]at e
 obtain⟨z,e1,e⟩:=aqD.mp e
 refine⟨g,ρ,M,x,z,I,e1,fun v H' x1 r1=>nx _ _ ⟨g,ρ.set j (some (.dat z)),M,x,ρ2,⟨(I.ex x1).inv.set r1,(I.ex x1).xr,fun jj hj=>?_⟩,e,fun p hp=>nj p (aqJ _ hp),fun σ' H2 x2 I2=>k σ' H2 (x1.trans x2) I2⟩⟩
 have ne:j≠jj:=fun z=>nj (j,se) aqK (by rw[hj,z])
 rw[aqN ne]
 exact I.sl jj hj
theorem ajU{i:Option Nat}{D:Ends}{σ:L2.St}{H:Hp}(h:tSu X.K aj a cls d i y [] D σ H):D.nx σ H:=by
 obtain⟨g,ρ,M,x,ρ2,I,e,nj,k⟩:=h
 cases e
 exact k σ H (Ex.refl H) I.inv
end
def amZ(K:aqE)(aj:aO)(h:Hd)(l:Cl):Prop:=(∃D,aj h.y=some D/\l.c=.ref D)/\abA K aj h.y h.tk/\l.nm=h.nm/\(l.ts=fun a cls d=>tSu K aj a cls d h.nm h.y h.st)/\∀p∈h.st,h.nm≠some p.1
inductive Fd(K:aqE)(aj:aO):List Hd->List Cl->Prop
 |nil:Fd K aj [] []
 |cons {h:Hd} {l:Cl} {hs:List Hd} {ls:List Cl} (o:amZ K aj h l) (r:Fd K aj hs ls):Fd K aj (h::hs) (l::ls)
theorem SInv.off{K:aqE}{aj:aO}{σ:L2.St}{H:Hp}{g:Gh}{ρ:Env}{M:Mo}(I:SInv K aj σ H g ρ M)(i:Nat)(v:Option V):SInv K aj (σ.set i v) H g (ρ.set i none) M:=by
 have I2:=I.forget (j:=i)
 refine⟨I2.kd,I2.wok,by rw[aq4,aq4];exact I.len,fun j d h=>?_,fun j xs h=>?_,fun j k xs ys l ne h1 h2 h3=>?_⟩
 ·by_cases e:j=i
  ·subst e
   rw[arC]at h
   split at h <;> first | (split at h <;> cases h) | (exact absurd rfl ‹¬_›)
  ·obtain⟨v',a1,a2⟩:=I2.dat j d h
   rw[aqN (Ne.symm e)]at a1
   exact⟨v',by rw[aqN (Ne.symm e)];exact a1,a2⟩
 ·by_cases e:j=i
  ·subst e
   rw[arC]at h
   split at h <;> first | (split at h <;> cases h) | (exact absurd rfl ‹¬_›)
  ·obtain⟨l,us,a1,a2⟩:=I2.own j xs h
   rw[aqN (Ne.symm e)]at a1
   exact⟨l,us,by rw[aqN (Ne.symm e)];exact a1,a2⟩
 ·have n1:j≠i:=fun z=>by
   subst z
   rw[arC]at h1
   split at h1 <;> first | (split at h1 <;> cases h1) | (exact absurd rfl ‹¬_›)
  have n2:k≠i:=fun z=>by
   subst z
   rw[arC]at h2
   split at h2 <;> first | (split at h2 <;> cases h2) | (exact absurd rfl ‹¬_›)
  rw[aqN (Ne.symm n1)]at h1 h3
  rw[aqN (Ne.symm n2)]at h2 ⊢
  exact I.sep j k xs ys l ne h1 h2 h3
section
variable{X:Cx}{aj:aO}{W:WX}{q:Bool}{body:List Stmt}{h0:ExceptHandler}{hds:List ExceptHandler}{hs:List Hd}{ls:List Cl}{pos:Pos}{f:SF}
theorem aii{D:Ends}{g g':Gh}{H H':Hp}{σ':L2.St}{ρ':Env}{M':Mo}{x:dJ}{c:Value}{dd:Option Addr}(ha:Fd X.K aj hs ls)(r:Gr q g g' H H')(I:SInv X.K aj σ' H' g' ρ' M')(xr:qd X.K aj g'.fr H' x c dd)
  (z:(hdl hs x ρ' M').sat (sN X.K aj q D.nx g H) (sR X.K aj q D.rt g H) (sN X.K aj q D.bk g H) (sN X.K aj q D.ct g H) (sX X.K aj W q g H)):ZG X.K W D ls c dd σ' H':=by
 induction ha with
 |nil=>exact z σ' H' g' c dd r I xr
 | @cons h l hs ls o _ ih=>
  obtain⟨⟨D0,o1,o2⟩,o3,o4,o5,o6⟩:=o
  rw[hdl]at z
  obtain⟨C,c1,c2,c3⟩:=id xr
  split at z
  ·next ht=>
   refine⟨true,by rw[c2,o2];exact o3 _ _ _ ht c1 _ o1,fun _ a na=>?_,fun y=>nomatch y⟩
   rw[o4,o5]
   split at z
   ·next hm=>
    split at z
    ·next ρ2 hr=>
     cases hnm:h.nm with
     |none=>
      rw[hnm]at hr z o6
      exact⟨g',ρ',M',x,ρ2,⟨I,xr,fun j hj=>nomatch hj⟩,hr,o6,fun σ2 H2 e2 I2=>z σ2 H2 g' (r.trans (Gr.ex e2)) I2⟩
     |some i=>
      rw[hnm]at hr z o6 hm
      refine⟨g',ρ'.set i none,M',x,ρ2,⟨I.off i _,xr,fun j hj=>?_⟩,hr,o6,fun σ2 H2 e2 I2=>z _ H2 g' (r.trans (Gr.ex e2)) (I2.off i none)⟩
      cases hj
      have hl:i < ρ'.length:=of_decide_eq_true hm
      rw[aqX (by rw[I.len];exact hl)]
    ·exact False.elim z
   ·exact False.elim z
  ·next ht=>exact⟨false,by rw[c2,o2];exact o3 _ _ _ ht c1 _ o1,(fun y=>nomatch y),fun _=>ih z⟩
  ·exact False.elim z
theorem aja(st:X.stack=X.env::X.outer)(hf:X.env.frame=some X.env.locals)(hN:X.N.Nodup)(tk:Takes X W)
  (hb:∀(W':WX) (pn:List (Addr×Obj)) (xe:Value->Shared->Prop),Takes (X.tr pn xe) W'->PassesOwn (model X.prog X.w) X.A X.env xe->Dm aj (X.tr pn xe) W' q body f)
  (hh:Az X (h0::hds) ls) (ha:Fd X.K aj hs ls):SE aj X W q (.Try body (h0::hds) [] [] pos) (Ua f hs):=by
 refine PS.weak (ag6 (tb:=fun W'=>tS X.K aj W' q f) st hf hN tk (fun W' pn xe t p=>hb W' pn xe t p) hh) fun D σ H ⟨g,ρ,M,I,z⟩=>?_
 refine⟨g,ρ,M,I,?_⟩
 unfold Ua at z
 cases hfm:f M ρ with
 |next ρ' M'=>rw[hfm]at z;exact z
 |ret d M'=>rw[hfm]at z;exact z
 |brk ρ' M'=>rw[hfm]at z;exact z
 |cont ρ' M'=>rw[hfm]at z;exact z
 |bad=>rw[hfm]at z;exact z
 |exc x ρ' M'=>
  rw[hfm]at z
  exact fun σ' H' g' c dd r I' xr=>aii ha r I' xr z
end
section
variable{K:aqE}{aj:aO}{W:WX}{g g':Gh}{H H':Hp}{σ:L2.St}{ρ:Env}{M:Mo}
theorem ju.grow{l:Addr}(r:Gr false g g' H H')(e:Ex H H')(k:Kd g H):∀{n:Bool} {kvs:List (Dat×Dat)},ju K aj g H l n kvs->ju K aj g' H' l n kvs
 |false,_,⟨kv,h1,h2,h3⟩=>⟨kv,e _ _ h1,h2,h3.gr r k⟩
 |true,_,⟨o,xs,vs,h1,h2,h3,h4,h5,h6⟩=>⟨o,xs,vs,e _ _ h1,h2,h3,h4.gr r k,h5,h6.gr r k⟩
theorem dR.grow{h:Nat}{f:Str}{v:V}(r:Gr false g g' H H')(e:Ex H H')(o:g'.ow=g.ow)(k:Kd g H):∀{fl:iW},dR K aj g H h f v fl->dR K aj g' H' h f v fl
 |.dat _,z=>Rep.gr r k z
 |.lst _ _,⟨l,us,h1,h2,h3,h4,h5⟩=>⟨l,us,h1,e _ _ h2,by rw[o];exact h3,h4.gr r k,r.tb h5⟩
 |.dic _ _,⟨l,h1,h2,h3⟩=>⟨l,h1,by rw[o];exact h2,h3.grow r e k⟩
theorem cO.grow{h:Nat}(r:Gr false g g' H H')(e:Ex H H')(o:g'.ow=g.ow)(k:Kd g H){fs:List (Str×V)}{gs:List (Str×iW)}(t:cO K aj g H h fs gs):cO K aj g' H' h fs gs:=by
 induction t with
 |nil=>exact .nil
 |cons z _ ih=>exact .cons (z.grow r e o k) ih
def Gh.push(g:Gh)(x:Addr):Gh:={ g with tbl:=g.tbl++[x] }
theorem Y0{x a:Addr}(z:(g.push x).A a):g.A a∨a=x:=by
 rcases z with(z|z)|z|z
 ·rcases aqU.mp z with z|z
  ·exact .inl (.inl (.inl z))
  ·exact .inr (aqL.mp z)
 ·exact .inl (.inl (.inr z))
 ·exact .inl (.inr (.inl z))
 ·exact .inl (.inr (.inr z))
theorem Zm{x a:Addr}(z:(g.push x).W a):g.W a∨a=x:=by
 rcases z with z|z
 ·rcases aqU.mp z with z|z
  ·exact .inl (.inl z)
  ·exact .inr (aqL.mp z)
 ·exact .inl (.inr z)
theorem Tq{x:Addr}(e:Ex H H')(nx:H x=none):Gr false g (g.push x) H H' where
 keep:=fun a o h _ _=>e a o h
 keepW:=fun z=>nomatch z
 dom:=BW e
 tbl:=⟨[x],rfl⟩
 W:=fun a z=>z.elim (fun z=>.inl (ark _ z)) .inr
 nW:=fun a z=>(Zm z).imp id fun z=>by rw[z];exact nx
 qg:=fun z=>nomatch z
 Lc:=rfl
 Lo:=fun _ z=>z
 nLo:=fun _ z=>.inl z
theorem aa2{x:Addr}{o:HO}(k:Kd g H)(e:Ex H H')(nx:H x=none)(hx:H' x=some o)(m:Jc o):Kd (g.push x) H' where
 ob:=fun a z=>by
  rcases Y0 z with z|rfl
  ·obtain⟨u,h1,h2⟩:=k.ob a z
   exact⟨u,e _ _ h1,h2⟩
  ·exact⟨o,hx,m⟩
 lo:=fun a z y=>by
  rcases Zm y with y|rfl
  ·exact k.lo a z y
  ·obtain⟨u,h1,_⟩:=k.ob a (.inr (.inr z))
   rw[nx]at h1
   cases h1
 lc:=fun a z=>by
  refine⟨fun y=>?_,(k.lc a z).2⟩
  rcases Zm y with y|rfl
  ·exact(k.lc a z).1 y
  ·obtain⟨u,h1,_⟩:=k.ob a (.inr (.inl z))
   rw[nx]at h1
   cases h1
theorem Yl{x:Addr}{c:Str}(k:Kd g H)(w:fU K aj g H M)(e:Ex H H')(nx:H x=none)(hx:c=""∨∃C dx,aj c=some C/\H' x=some (.ins C dx [])):fU K aj (g.push x) H' (M++[⟨c,[]⟩]):=by
 have gt:∀{h:Nat} {a:Addr},(g.push x).tbl[h]?=some a->(g.tbl[h]?=some a)∨(h=M.length/\a=x):=fun {h a} z=>by
  have z:(g.tbl++[x])[h]?=some a:=z
  by_cases hl:h < g.tbl.length
  ·rw[aqP hl]at z
   exact .inl z
  ·rw[aqT (by omega)]at z
   have:=(aqG.mp z).1
   simp at this
   have e0:h - g.tbl.length=0:=by omega
   rw[e0]at z
   cases z
   exact .inr ⟨by rw[←w.len];omega,rfl⟩
 have nin:∀{h:Nat},¬g.tbl[h]?=some x:=fun {h} z=>by
  obtain⟨u,h1,_⟩:=k.ob x (.inl (.inl (aqM z)))
  rw[nx]at h1
  cases h1
 have ex:∀{h:Nat} {i:Inst},(M++[(⟨c,[]⟩:Inst)])[h]?=some i->M[h]?=some i∨i=⟨c,[]⟩:=fun {h i} h1=>by
  by_cases hl:h < M.length
  ·rw[aqP hl]at h1
   exact .inl h1
  ·rw[aqT (by omega)]at h1
   exact .inr (aqL.mp (aqM h1))
 refine⟨by show(g.tbl++[x]).length=_;simp[w.len],fun h j a h1 h2=>?_,fun h a i h1 h2 hcn=>?_,fun h i h1=>?_,fun h i h1=>?_,fun h a i h1 h2 hcn=>?_,fun h i h1 hcn=>?_,w.nc⟩
 ·rcases gt h1 with z1|⟨z1,rfl⟩
  ·rcases gt h2 with z2|⟨z2,rfl⟩
   ·exact w.inj h j a z1 z2
   ·exact absurd z1 nin
  ·rcases gt h2 with z2|⟨z2,_⟩
   ·exact absurd z2 nin
   ·omega
 ·rcases gt h1 with z1|⟨rfl,rfl⟩
  ·have hl:h < M.length:=by rw[←w.len];exact(aqG.mp z1).1
   rw[aqP hl]at h2
   obtain⟨C',dx',fs,c1,c2,c3⟩:=w.ins h a i z1 h2 hcn
   exact⟨C',dx',fs,c1,e _ _ c2,c3.grow (Tq e nx) e rfl k⟩
  ·rw[aqT (aq2 _),Nat.sub_self]at h2
   cases h2
   rcases hx with rfl|⟨C,dx,hc,hx⟩
   ·exact absurd rfl hcn
   ·exact⟨C,dx,[],hc,hx,.nil⟩
 ·rcases ex h1 with h1|rfl
  ·exact w.nd h i h1
  ·exact arR
 ·rcases ex h1 with h1|rfl
  ·exact w.fd h i h1
  ·exact fun f hf=>absurd hf arh
 ·rcases gt h1 with z1|⟨_,rfl⟩
  ·have hl:h < M.length:=by rw[←w.len];exact(aqG.mp z1).1
   rw[aqP hl]at h2
   exact w.tw h a i z1 h2 hcn
  ·cases hz:g.ow a with
   |none=>exact hz
   |some p=>
    obtain⟨u,h2,_⟩:=k.ob a (.inl (.inr (by rw[hz];exact fun y=>nomatch y)))
    rw[nx]at h2
    cases h2
 ·rcases ex h1 with h1|rfl
  ·exact w.dm h i h1 hcn
  ·rfl
theorem SInv.grow{M':Mo}(r:Gr false g g' H H')(e:Ex H H')(lo:g'.Lo=g.Lo)(k':Kd g' H')(w':fU K aj g' H' M')(I:SInv K aj σ H g ρ M):SInv K aj σ H' g' ρ M' where
 kd:=k'
 wok:=w'
 len:=I.len
 dat:=fun i d h=>by
  obtain⟨v,h1,h2⟩:=I.dat i d h
  exact⟨v,h1,h2.gr r I.kd⟩
 own:=fun i xs h=>by
  obtain⟨l,us,h1,h2,h3,h4⟩:=I.own i xs h
  exact⟨l,us,h1,e _ _ h2,by rw[lo];exact h3,h4.gr r I.kd⟩
 sep:=I.sep
end
theorem ab8{P:Program}{w:World}{K:aqE}{mg:Str->Option Value}{base:Heap}{k:Nat}{f:Addr}{fd:FuncData}{ps:List Str}{sp:Sp}(F:FnOk P w K mg base (L2.CX P w) k f fd ps sp):FnOk P w K mg base L2.CX0 k f fd ps fun vs H Q _=>sp vs H Q fun _ _ _=>False:=
 ⟨fun vs H Q E h=>F.len vs H Q _ h,fun A outer s H args us vs Q E hr he hb hv h=>codeAny_mono (F.run A outer s H args us vs Q _ hr he hb hv h) fun r s' z=>by
  unfold CR at z ⊢
  split at z
  ·exact z
  ·exact z
  ·obtain⟨a,B,H',cls,d,_,_,_,_,_,_,_,y⟩:=z
   exact False.elim y⟩
def zY(x:Str)(m:Mo->List Dat->aZ Dat)(as:QA):GF:=fun M ρ=>((as M ρ).at M).bind fun ds _=>match m (M++[⟨x,[]⟩]) (obj M.length::ds) with
 |.ok .none M'=>.ok (obj M.length) M'
 |_=>.bad
section
variable{X:Cx}{aj:aO}{W:WX}{x:Str}{pos p:Pos}{k n:Nat}{m:Mo->List Dat->aZ Dat}{as:QA}{t:TA}{e:Expr}{es:List Expr}
theorem ac5{C f:Addr}{fd:FuncData}{ps:List Str}(hc:aj x=some C)(hp:ps.length=n+1)(hn:∀M ρ ds,as M ρ=.ok ds->ds.length=n)(ht:∀σ H Q,M6 X.K aj W as σ H Q->t σ H Q)(σ:L2.St)(H:Hp)(Q:VK)(h:tE X.K aj W false (zY x m as) σ H Q) :
  tMake C (fun vs H Q _=>Gi X.K aj ps.length m vs H Q fun _ _ _=>False) [] (fun _ _ _=>False) t σ H Q:=by
 obtain⟨g,ρ,M,I,h⟩:=h
 unfold zY at h
 have h:=h.bnd
 refine ht σ H _ ⟨g,ρ,M,I,?_⟩
 cases has:as M ρ with
 |exc x=>rw[has]at h;exact fun H' c dd e r=>h H' g c dd (Gr.ex e) (I.ex e) r
 |bad=>rw[has]at h;exact False.elim h
 |ok ds=>
  rw[has]at h
  intro vs H1 e1 r1 y dx ny ndx ne
  have I1:=I.ex e1
  have e2:Ex H1 (upd (upd H1 dx (.own y)) y (.ins C dx [])):=by
   refine(Ex.new ndx).trans (Ex.new ?_)
   rw[upd_ne ne.symm]
   exact ny
  have hy:upd (upd H1 dx (.own y)) y (.ins C dx []) y=some (.ins C dx []):=upd_same
  have gr:=Tq (g:=g) e2 ny
  have kd:=aa2 I1.kd e2 ny hy trivial
  have wk:=Yl (c:=x) I1.kd I1.wok e2 ny (.inr ⟨C,dx,hc,hy⟩)
  have I2:=I1.grow gr e2 rfl kd wk
  have hb:(g.push y).tbl[M.length]?=some y:=by
   show(g.tbl++[y])[M.length]?=_
   rw[←I1.wok.len,aqT (aq2 _),Nat.sub_self]
   rfl
  refine⟨by rw[ars,aqS,r1.length,hn M ρ ds has,hp],g.push y,M++[⟨x,[]⟩],obj M.length::ds,kd,wk,.cons (.obj hb) (by rw[ars];exact r1.gr gr I1.kd),?_⟩
  have h:aZ.sat (match m (M++[(⟨x,[]⟩:Inst)]) (obj M.length::ds) with
   |.ok .none M'=>aZ.ok (obj M.length) M'
   |_=>.bad) (fun d M'=>∀v H' g',Gr false g g' H H'->SInv X.K aj σ H' g' ρ M'->Rep X.K g' H' v d->Q v H') (gE X.K aj W false g H σ ρ):=h
  cases hm:m (M++[⟨x,[]⟩]) (obj M.length::ds) with
  |bad=>rw[hm]at h;exact False.elim h
  |exc z M'=>rw[hm]at h;exact False.elim h
  |ok d M'=>
   rw[hm]at h
   cases d with
   |none=>exact fun v H' g' c k' w' r'=>⟨by cases r';rfl,h (.ref y) H' g' (((Gr.ex e1).trans gr).trans c.gr) (I2.call c k' w') (.obj (c.gr.tb hb))⟩
   |_=>exact False.elim h
theorem ajZ(hr:Room k X.A)(g:bf X.prog X.w X.K X.mg X.base aj k x (.cls n m))(hg:Gl X x)(hd:(x==("__debug__" : Str))=false)(ha:Dy aj X W (e::es) as)(hs:(e::es).all nst=true)(hn:∀M ρ ds,as M ρ=.ok ds->ds.length=n) :
  GE aj X W false (.Call (.Name x p) (e::es) [] pos) (zY x m as):=by
 obtain⟨C,f,fd,ps,j,g1,g2,_,g3,hj,hp,hB,F⟩:=g
 have hs':=hs
 rw[arb,aqF]at hs'
 exact PE.weak (pe_make (E:=fun _ _ _=>False) g3 (ab8 F) (hr.mono hj) hg g1 hB .nil pass0 ha hd (cI hs'.1 es) (star_any es hs'.2)) fun σ H Q h=>ac5 (f:=f) (fd:=fd) g2 hp hn (fun _ _ _ z=>z) σ H Q h
theorem agu(hr:Room k X.A)(g:bf X.prog X.w X.K X.mg X.base aj k x (.cls 0 m))(hg:Gl X x)(hd:(x==("__debug__" : Str))=false):GE aj X W false (.Call (.Name x p) [] [] pos) (zY x m au):=by
 obtain⟨C,f,fd,ps,j,g1,g2,_,g3,hj,hp,hB,F⟩:=g
 exact PE.weak (pe_make0 (E:=fun _ _ _=>False) g3 (ab8 F) (hr.mono hj) hg g1 hB .nil pass0 hd) fun σ H Q h=>ac5 (f:=f) (fd:=fd) (as:=au) g2 hp (fun M ρ ds z=>by cases z;rfl) (fun σ H Q ⟨g,ρ,M,I,z⟩=>z [] H (Ex.refl H) .nil) σ H Q h
end
def Bh(m:Mo->List Dat->aZ Dat)(as:QA):GF:=fun M ρ=>((as M ρ).at M).bind fun ds _=>m M ds
section
variable{X:Cx}{aj:aO}{W:WX}{e:Expr}{es:List Expr}{pos p:Pos}{x:Str}{k:Nat}{f:Addr}{fd:FuncData}{ps:List Str}
theorem ahG{m:Mo->List Dat->aZ Dat}{as:QA}(tk:Takes X W)(F:FnOk X.prog X.w X.K X.mg X.base (L2.CX X.prog X.w) k f fd ps (Gi X.K aj ps.length m))(hr:Room k X.A)(hg:Gl X x)(hm:X.mg x=some (.ref f))(hk:PySem.W.keepIn X.K (.ref f)=true)(hb:Binds X.K fd ps [])
  (ha:Dy aj X W (e::es) as) (hl:(e::es).length=ps.length) (hd:(x==("__debug__" : Str))=false) (hs:(e::es).all nst=true) (hn:∀M ρ ds,as M ρ=.ok ds->ds.length=(e::es).length):GE aj X W false (.Call (.Name x p) (e::es) [] pos) (Bh m as):=by
 have hs':=hs
 rw[arb,aqF]at hs'
 refine PE.weak (pe_callS (E:=fun σ=>WE W σ) F hr hg hm hk hb (fun σ=>passAt tk σ) ha hd (cI hs'.1 es) (star_any es hs'.2)) fun σ H Q ⟨g,ρ,M,I,h⟩=>?_
 refine⟨g,ρ,M,I,?_⟩
 have h:=h.bnd
 cases has:as M ρ with
 |exc x=>rw[has]at h;exact fun H' c dd e r=>h H' g c dd (Gr.ex e) (I.ex e) r
 |bad=>rw[has]at h;exact False.elim h
 |ok ds=>
  rw[has]at h
  have h:(m M ds).sat (fun d M'=>∀v H' g',Gr false g g' H H'->SInv X.K aj σ H' g' ρ M'->Rep X.K g' H' v d->Q v H') (gE X.K aj W false g H σ ρ):=h
  intro vs H1 e1 r1
  exact⟨by rw[r1.length,hn M ρ ds has];exact hl,g,M,ds,I.kd.ex e1,I.wok.ex e1 I.kd,r1,h.mono (fun d M' kk v H' g' c k' w' r'=>kk v H' g' ((Gr.ex e1).trans c.gr) ((I.ex e1).call c k' w') r') fun x M' kk H' g' cc dd c k' w' r'=>kk H' g' cc dd ((Gr.ex e1).trans c.gr) ((I.ex e1).call c k' w') r'⟩
end
def Ft.has(ft:Ft)(c f:Str):Bool:=match ft.lookup c with
 |some fs=>fs.contains f
 |none=>false
def Ky(ft:Ft)(aj:aO):Prop:=∀c f,ft.has c f=true->f∈aj.fl c
def unH:Dat->Option Nat
 |.dict [(.none,.int (.ofNat h))]=>some h
 |_=>none
theorem aeN{d:Dat}{h:Nat}(e:unH d=some h):d=obj h:=by
 unfold unH at e
 split at e
 ·cases e;rfl
 ·cases e
def jW(M:Mo)(d:Dat):Option (Nat×Inst):=(unH d).bind fun h=>(M[h]?).bind fun i=>match i.cls=="" with
 |true=>none
 |false=>some (h,i)
theorem Iz{M:Mo}{d:Dat}{h:Nat}{i:Inst}(e:jW M d=some (h,i)):d=obj h/\M[h]?=some i/\i.cls≠"":=by
 unfold jW at e
 obtain⟨h',e1,e⟩:=aqD.mp e
 obtain⟨i',e2,e⟩:=aqD.mp e
 split at e
 ·cases e
 ·next hc=>
  cases e
  exact⟨aeN e1,e2,fun z=>by rw[z]at hc;cases hc⟩
def uF(ft:Ft)(o:QF)(f:Str)(e:GF):SF:=fun M ρ=>(e M ρ).then ρ fun d M1=>((o M1 ρ).at M1).then ρ fun od M2=>match jW M2 od with
 |some (h,i)=>match ft.has i.cls f&&decide (i.fs.length < 100) with
  |true=>.next ρ (M2.set h (i.put f (.dat d)))
  |false=>.bad
 |none=>.bad
theorem SInv.chg{K:aqE}{aj:aO}{σ:L2.St}{H H':Hp}{g g':Gh}{ρ:Env}{M M':Mo}{h:Nat}{f:Str}(I:SInv K aj σ H g ρ M)(c:Chg M g g' H H' h f)(w:fU K aj g' H' M'):SInv K aj σ H' g' ρ M':=I.call c.gc c.kd w
section
variable{X:Cx}{aj:aO}{W:WX}{o e:Expr}{f:Str}{pos pos':Pos}{ft:Ft}{fo:QF}
theorem Gx{K:aqE}{g:Gh}{H:Hp}{M:Mo}{d:Dat}{v:V}{h:Nat}{i:Inst}(co:jy K aj)(fk:Ky ft aj)(w:fU K aj g H M)(r:dW K g H v d)(hi:jW M d=some (h,i))(hf:ft.has i.cls f=true):∃a C dx fs,d=obj h/\M[h]?=some i/\i.cls≠""/\g.tbl[h]?=some a/\v=.ref a/\aj i.cls=some C/\H a=some (.ins C dx fs)/\cO K aj g H h fs i.fs/\Cls K C/\NoAttr K C f/\f∈aj.fl i.cls:=by
 obtain⟨rfl,h1,h2⟩:=Iz hi
 obtain⟨a,rfl,ha⟩:=JT r
 obtain⟨C,dx,fs,c1,c2,c3⟩:=w.ins h a i ha h1 h2
 have hfl:=fk _ _ hf
 obtain⟨k1,k2⟩:=co i.cls C f c1 hfl
 exact⟨a,C,dx,fs,rfl,h1,h2,ha,rfl,c1,c2,c3,k1,k2,hfl⟩
theorem ahP{fe:GF}(co:jy X.K aj)(fk:Ky ft aj)(ho:QW aj X W o fo)(he:GE aj X W false e fe)(hs:swapsWith e (some (.Attribute o f pos')) pos.line X.env=pure false):SE aj X W false (.Assign [.Attribute o f pos'] e pos) (uF ft fo f fe):=by
 refine PS.weak (ps_fld ho he hs) fun D σ H ⟨g,ρ,M,I,z⟩=>?_
 refine tE.go I (cW (σ:=σ) z) fun d M1 v H1 g1 k1 r1 I1 rv=>?_
 refine tW.go I1 (k:=fun od=>((match jW M1 od with
  |some (h,i)=>match ft.has i.cls f&&decide (i.fs.length < 100) with
   |true=>rZ.next ρ (M1.set h (i.put f (.dat d)))
   |false=>.bad
  |none=>.bad).sat (sN X.K aj false D.nx g H) (sR X.K aj false D.rt g H) (sN X.K aj false D.bk g H) (sN X.K aj false D.ct g H) (sX X.K aj W false g H))) ?_ fun od u H2 k2 e2 ru=>?_
 ·have k1:=Out.gK (cW (σ:=σ) k1)
  exact k1.mono (fun _ y=>y) fun x y H' c dd ex rx=>y H' g1 c dd (r1.trans (Gr.ex ex)) (I1.ex ex) rx
 ·have I2:=I1.ex e2
  split at k2
  ·next h i hi=>
   split at k2
   ·next hb=>
    rw[aqF]at hb
    obtain⟨a,C,dx,fs,_,m1,m2,ha,rfl,c1,c2,c3,c4,c5,c6⟩:=Gx co fk I2.wok ru hi hb.1
    refine⟨a,C,dx,fs,rfl,c2,c4,c5,?_,?_⟩
    ·have:=of_decide_eq_true hb.2
     rw[c3.len]
     omega
    ·have ch:=Uo (f:=f) (C:=C) (dx:=dx) (fs':=putF f v fs) I2.kd I2.wok ha m1 m2
     have w':=I2.wok.chg I2.kd ch ha m1 m2 c6 c1 c3 upd_same (fl:=.dat d) (show Rep X.K g1 _ v d from(rv.ex e2 I1.kd).gr ch.gc.gr I2.kd)
     exact k2 σ _ g1 ((r1.trans (Gr.ex e2)).trans ch.gc.gr) (I2.chg ch w')
   ·exact False.elim k2
  ·exact False.elim k2
end
mutual
theorem Rep.mv{K:aqE}{g g':Gh}{H:Hp}(tb:∀(h:Nat) (a:Addr),g.tbl[h]?=some a->g'.tbl[h]?=some a)(n:∀a,g'.A a->g.A a):∀{v:V} {d:Dat},Rep K g H v d->Rep K g' H v d
 |_,_,.non=>.non
 |_,_,.bl b=>.bl b
 |_,_,.int i=>.int i
 |_,_,.str x=>.str x
 |_,_,.tup h t=>.tup h (aH.mv tb n t)
 |_,_,.lst h t=>.lst (h.elim (fun z=>.inl ⟨z.1,fun y=>z.2 (n _ y)⟩) .inr) (aH.mv tb n t)
 |_,_,.obj h=>.obj (tb _ _ h)
theorem aH.mv{K:aqE}{g g':Gh}{H:Hp}(tb:∀(h:Nat) (a:Addr),g.tbl[h]?=some a->g'.tbl[h]?=some a)(n:∀a,g'.A a->g.A a):∀{vs:List V} {ds:List Dat},aH K g H vs ds->aH K g' H vs ds
 |_,_,.nil=>.nil
 |_,_,.cons h t=>.cons (Rep.mv tb n h) (aH.mv tb n t)
end
def CT(ft:Ft)(o:QF)(f:Str)(e:IF):SF:=fun M ρ=>((e M ρ).at M).then ρ fun xs M0=>((o (M0++[⟨"",[]⟩]) ρ).at (M0++[⟨"",[]⟩])).then ρ fun od M2=>match jW M2 od with
 |some (h,i)=>match ft.has i.cls f&&decide (i.fs.length < 100) with
  |true=>.next ρ (M2.set h (i.put f (.lst M0.length xs)))
  |false=>.bad
 |none=>.bad
theorem JG{K:aqE}{aj:aO}{σ:L2.St}{H H':Hp}{g:Gh}{ρ:Env}{M:Mo}{l:Addr}{o:HO}(I:SInv K aj σ H g ρ M)(nl:H l=none)(e:Ex H H')(hl:H' l=some o)(m:Jc o):Gr false g (g.push l) H H'/\SInv K aj σ H' (g.push l) ρ (M++[⟨"",[]⟩])/\(g.push l).tbl[M.length]?=some l/\(g.push l).ow l=none/\(M++[(⟨"",[]⟩:Inst)])[M.length]?=some ⟨"",[]⟩:=by
 have gr:=Tq (g:=g) e nl
 have kd:=aa2 I.kd e nl hl m
 have wk:=Yl (c:="") I.kd I.wok e nl (.inl rfl)
 refine⟨gr,I.grow gr e rfl kd wk,?_,?_,?_⟩
 ·show(g.tbl++[l])[M.length]?=_
  rw[←I.wok.len,aqT (aq2 _),Nat.sub_self]
  rfl
 ·cases hz:g.ow l with
  |none=>exact hz
  |some p=>
   obtain⟨u,h1,_⟩:=I.kd.ob l (.inl (.inr (by rw[hz];exact fun y=>nomatch y)))
   rw[nl]at h1
   cases h1
 ·rw[aqT (aq2 _),Nat.sub_self]
  rfl
section
variable{X:Cx}{aj:aO}{W:WX}{o e:Expr}{f:Str}{pos pos' p1 apos epos spos:Pos}{ft:Ft}{fo:QF}
theorem agP{fe:IF}(co:jy X.K aj)(fk:Ky ft aj)(ho:QW aj X W o fo)(he:FE aj X W e fe)(hs:swapsWith e (some (.Attribute o f pos')) pos.line X.env=pure false):SE aj X W false (.Assign [.Attribute o f pos'] e pos) (CT ft fo f fe):=by
 refine PS.weak (ps_fld ho he hs) fun D σ H ⟨g,ρ,M,I,z⟩=>?_
 refine⟨g,ρ,M,I,?_⟩
 unfold CT at z
 cases hf:fe M ρ with
 |exc x=>rw[hf]at z;exact fun H' c dd e r=>z σ H' g c dd (Gr.ex e) (I.ex e) r.fr
 |bad=>rw[hf]at z;exact False.elim z
 |ok xs=>
  rw[hf]at z
  intro l us H1 nl e1 hl rs
  obtain⟨gr,I1,tb,ow,mm⟩:=JG I nl e1 hl trivial
  have rs1:aH X.K (g.push l) H1 us xs:=aH.mv (g:=g.add l) (g':=g.push l) (fun h a z=>gr.tb (g:=g) z) (fun a z=>by
   rcases Y0 z with z|rfl
   ·rcases z with z|z|z
    ·exact .inl z
    ·exact .inr (.inl z)
    ·exact .inr (.inr (show g.Lo a∨a=l from Or.inl z))
   ·exact .inr (.inr (show g.Lo a∨a=a from Or.inr rfl))) rs
  have z:(((fo (M++[⟨"",[]⟩]) ρ).at (M++[⟨"",[]⟩])).then ρ fun od M2=>match jW M2 od with
   |some (h,i)=>match ft.has i.cls f&&decide (i.fs.length < 100) with
    |true=>.next ρ (M2.set h (i.put f (.lst M.length xs)))
    |false=>.bad
   |none=>.bad).sat (sN X.K aj false D.nx g H) (sR X.K aj false D.rt g H) (sN X.K aj false D.bk g H) (sN X.K aj false D.ct g H) (sX X.K aj W false g H):=z
  have k1:=Out.gK (cW (σ:=σ) z)
  refine tW.go I1 (k1.mono (fun _ y=>y) fun x y H' c dd ex rx=>y H' _ c dd (gr.trans (Gr.ex ex)) (I1.ex ex) rx) fun od u H2 k2 e2 ru=>?_
  have I2:=I1.ex e2
  split at k2
  ·next h i hi=>
   split at k2
   ·next hb=>
    rw[aqF]at hb
    obtain⟨a,C,dx,fs,_,m1,m2,ha,rfl,c1,c2,c3,c4,c5,c6⟩:=Gx co fk I2.wok ru hi hb.1
    have nla:l≠a:=fun z=>by
     subst z
     cases I2.wok.inj _ _ _ ha tb
     rw[mm]at m1
     cases m1
     exact m2 rfl
    refine⟨a,C,dx,fs,rfl,c2,c4,c5,?_,?_⟩
    ·have:=of_decide_eq_true hb.2
     rw[c3.len]
     omega
    ·have ch:=Ul (f:=f) (C:=C) (dx:=dx) (fs':=putF f (.ref l) fs) I2.kd I2.wok ha m1 m2 tb mm ow
     have w':=I2.wok.chg I2.kd ch ha m1 m2 c6 c1 c3 upd_same (v:=.ref l) (fl:=.lst M.length xs) ⟨l,us,rfl,by rw[upd_ne nla];exact e2 _ _ hl,if_pos rfl,(rs1.ex e2 I1.kd).gr ch.gc.gr I2.kd,ch.gc.gr.tb tb⟩
     exact k2 σ _ _ ((gr.trans (Gr.ex e2)).trans ch.gc.gr) (I2.chg ch w')
   ·exact False.elim k2
  ·exact False.elim k2
def Ea(M:Mo)(f:Str)(d:Dat):Option (Nat×Inst×Nat×List Dat):=(jW M d).bind fun p=>match p.2.fs.lookup f with
 |some (.lst n xs)=>some (p.1,p.2,n,xs)
 |_=>none
theorem Tf{K:aqE}{g:Gh}{H:Hp}{M:Mo}{d:Dat}{v:V}{h n:Nat}{i:Inst}{xs:List Dat}(co:jy K aj)(w:fU K aj g H M)(r:dW K g H v d)(hi:Ea M f d=some (h,i,n,xs)) :
  ∃a C dx fs l us,d=obj h/\M[h]?=some i/\i.cls≠""/\i.fs.lookup f=some (.lst n xs)/\g.tbl[h]?=some a/\v=.ref a/\aj i.cls=some C/\H a=some (.ins C dx fs)/\cO K aj g H h fs i.fs/\Cls K C/\NoAttr K C f/\f∈aj.fl i.cls/\fs.lookup f=some (.ref l)/\H l=some (.lst us)/\g.ow l=some (h,f)/\aH K g H us xs/\g.tbl[n]?=some l:=by
 unfold Ea at hi
 obtain⟨⟨h',i'⟩,h1,hi⟩:=aqD.mp hi
 split at hi
 ·next n' xs' hl=>
  cases hi
  obtain⟨rfl,m1,m2⟩:=Iz h1
  obtain⟨a,rfl,ha⟩:=JT r
  obtain⟨C,dx,fs,c1,c2,c3⟩:=w.ins _ a _ ha m1 m2
  have hfl:=w.fd _ _ m1 f (lookup_mem hl)
  obtain⟨k1,k2⟩:=co _ C f c1 hfl
  obtain⟨u,l1,l,us,rfl,l3,l4,l5,l6⟩:=c3.get hl
  exact⟨a,C,dx,fs,l,us,rfl,m1,m2,hl,ha,rfl,c1,c2,c3,k1,k2,hfl,l1,l3,l4,l5,l6⟩
 ·cases hi
theorem aa6{K:aqE}{σ:L2.St}{ρ:Env}{g:Gh}{H:Hp}{M:Mo}{h n:Nat}{i:Inst}{ys:List Dat}{a C dx l:Addr}{fs:List (Str×V)}{us':List V}(I:SInv K aj σ H g ρ M)(m1:M[h]?=some i)(m2:i.cls≠"")(ha:g.tbl[h]?=some a)(c1:aj i.cls=some C)(c2:H a=some (.ins C dx fs))(c3:cO K aj g H h fs i.fs)(hfl:f∈aj.fl i.cls)(l1:fs.lookup f=some (.ref l))(l4:g.ow l=some (h,f))(l6:g.tbl[n]?=some l)(rs:aH K g H us' ys) :
  Gr false g g H (upd H l (.lst us'))/\SInv K aj σ (upd H l (.lst us')) g ρ (M.set h (i.put f (.lst n ys))):=by
 have ch:=acz (o':=.lst us') I.kd I.wok l4 trivial
 have nla:a≠l:=fun z=>by
  subst z
  rw[I.wok.tw h a i ha m1 m2]at l4
  cases l4
 have w':=I.wok.chg I.kd ch ha m1 m2 hfl c1 (dx:=dx) c3 (v:=.ref l) (fl:=.lst n ys) (by rw[upd_ne nla,K9 l1];exact c2) ⟨l,us',rfl,upd_same,l4,rs.gr ch.gc.gr I.kd,l6⟩
 exact⟨ch.gc.gr,I.chg ch w'⟩
def Dk(f:Str)(o:QF)(e:GF):SF:=fun M ρ=>((o M ρ).at M).then ρ fun od M0=>match Ea M0 f od with
 |some (_,_,n,_)=>(e M0 ρ).then ρ fun d M1=>match Ea M1 f od with
  |some (h,i,n',xs)=>match n==n'&&decide (xs.length < 100000) with
   |true=>.next ρ (M1.set h (i.put f (.lst n (xs++[d]))))
   |false=>.bad
  |none=>.bad
 |none=>.bad
theorem ahi{fe:GF}(co:jy X.K aj)(ho:QW aj X W o fo)(hb:baseOk o=true)(he:GE aj X W false e fe)(hs:nst e=true)(hl:(apos.endLine==pos.line)=true) :
  SE aj X W false (.Expr (.Call (.Attribute (.Attribute o f p1) "append" apos) [e] [] pos) epos) (Dk f fo fe):=by
 have h0:=pe_fld (X:=X) (pos:=p1) (f:=f) ho (lX hb)
 have h1:=pa_cons he pa_nil (cI hs [])
 have key:=pe_bm (X:=X) (cpos:=pos) (apos:=apos) PySem.F.plainAttrs_list PySem.F.slot_list_append PySem.F.type_list_append mt_append h0 h1 (lX rfl) (few (by simp[hs]) (by simp)) hl (cI hs []) (by with_unfolding_all rfl)
 refine PS.weak (ps_expr key (by with_unfolding_all rfl)) fun D σ H ⟨g,ρ,M,I,z⟩=>?_
 unfold Dk at z
 have k1:=Out.gK (cW (σ:=σ) z)
 refine tW.go I (k1.mono (fun _ y=>y) fun x y H' c dd ex rx=>y H' _ c dd (Gr.ex ex) (I.ex ex) rx) fun od u H1 k2 e1 ru=>?_
 have I1:=I.ex e1
 split at k2
 ·next h0' i0 n xs0 hi=>
  obtain⟨a,C,dx,fs,l,us,rfl,m1,m2,ml,ha,rfl,c1,c2,c3,c4,c5,c6,l1,l3,l4,l5,l6⟩:=Tf co I1.wok ru hi
  refine⟨a,C,dx,fs,.ref l,rfl,c2,c4,c5,l1,.inl ⟨rfl,us,sq_of l3⟩,?_⟩
  refine tE.go I1 ((cW (σ:=σ) k2).mono (fun _ _ y=>y) fun x M' y=>y.gr (Gr.ex e1)) fun d M1 v H2 g2 k3 r2 I2 rv=>?_
  split at k3
  ·next h i n' xs hi2=>
   split at k3
   ·next hg=>
    rw[aqF]at hg
    cases eq_of_beq hg.1
    have ru2:dW X.K g2 H2 (.ref a) (obj h0'):=Rep.weak (.obj (r2.tb ha))
    obtain⟨a',C',dx',fs',l',us',eh,n1,n2,nl,hb',ea,d1,d2,d3,d4,d5,d6,p1,p3,p4,p5,p6⟩:=Tf co I2.wok ru2 hi2
    cases ea
    have el:l'=l:=aq0 (p6.symm.trans (r2.tb l6))
    subst el
    obtain⟨gr,I3⟩:=aa6 (us':=us'++[v]) (ys:=xs++[d]) I2 n1 n2 hb' d1 d2 d3 d6 p1 p4 p6 (p5.append (.cons rv .nil))
    refine⟨l',us',v,rfl,rfl,p3,sz_lt (by rw[p5.length];exact of_decide_eq_true hg.2),?_⟩
    exact k3 σ _ g2 (((Gr.ex e1).trans r2).trans gr) I3
   ·exact False.elim k3
  ·exact False.elim k3
 ·exact False.elim k2
def Ql(f:Str)(o fi e:QF):SF:=fun M ρ=>((e M ρ).at M).then ρ fun d _=>((o M ρ).at M).then ρ fun od _=>match Ea M f od with
 |some (h,i,n,xs)=>((fi M ρ).at M).then ρ fun k _=>match k with
  |.int k=>match ixN xs.length k with
   |some j=>.next ρ (M.set h (i.put f (.lst n (xs.set j d))))
   |none=>.bad
  |_=>.bad
 |none=>.bad
theorem ahA{i:Expr}{fi fe:QF}(co:jy X.K aj)(ho:QW aj X W o fo)(hb:baseOk o=true)(he:QE aj X W e fe)(hi:QE aj X W i fi)
  (ha:∀v,assign (.Subscript (.Attribute o f p1) i spos) X.env v=(do
   let ov ←holding [v] (eval (.Attribute o f p1) X.env)
   let iv ←holding [v,ov] (eval i X.env)
   standAt spos
   holding [v,ov,iv] (setItem ov iv v)
   release [v,ov,iv] []))
  (hs:swapsWithSole [.Subscript (.Attribute o f p1) i spos] e pos.line X.env=pure false) (h1:(assignEach [.Subscript (.Attribute o f p1) i spos] X.env).map (·.2)=[assign (.Subscript (.Attribute o f p1) i spos) X.env]):SE aj X W false (.Assign [.Subscript (.Attribute o f p1) i spos] e pos) (Ql f fo fi fe):=by
 have h0:=pe_fld (X:=X) (pos:=p1) (f:=f) ho (lX hb)
 refine PS.weak (ps_asg he (pg_sub h0 hi set_list ha) hs (by with_unfolding_all rfl) h1) fun D σ H ⟨g,ρ,M,I,z⟩=>?_
 unfold Ql at z
 have k1:=Out.gK (cW (σ:=σ) z)
 refine tQ.go I (k1.mono (fun _ y=>y) fun x y H' c dd ex rx=>y H' _ c dd (Gr.ex ex) (I.ex ex) rx) fun d v H1 k2 e1 rv=>?_
 have I1:=I.ex e1
 have k2:=Out.gK (cW (σ:=σ) k2)
 refine tW.go I1 (k2.mono (fun _ y=>y) fun x y H' c dd ex rx=>y H' _ c dd ((Gr.ex e1).trans (Gr.ex ex)) (I1.ex ex) rx) fun od u H2 k3 e2 ru=>?_
 have I2:=I1.ex e2
 have e12:=e1.trans e2
 split at k3
 ·next h i' n xs hl=>
  obtain⟨a,C,dx,fs,l,us,rfl,m1,m2,ml,ha',rfl,c1,c2,c3,c4,c5,c6,l1,l3,l4,l5,l6⟩:=Tf co I2.wok ru hl
  refine⟨a,C,dx,fs,.ref l,rfl,c2,c4,c5,l1,?_⟩
  have k3:=Out.gK (cW (σ:=σ) k3)
  refine tQ.go I2 (k3.mono (fun _ y=>y) fun x y H' c dd ex rx=>y H' _ c dd ((Gr.ex e12).trans (Gr.ex ex)) (I2.ex ex) rx) fun k w H3 k4 e3 rw'=>?_
  have I3:=I2.ex e3
  cases k with
  |int k=>
   simp only at k4
   split at k4
   ·next j hj=>
    cases rw'
    obtain⟨gr,I4⟩:=aa6 (us':=us.set j v) (ys:=xs.set j d) I3 m1 m2 ha' c1 (e3 _ _ c2) (c3.ex e3 I2.kd) c6 l1 l4 l6 (((l5.ex e3 I2.kd).set ((rv.ex e2 I1.kd).ex e3 I2.kd) j))
    refine⟨l,us,k,j,rfl,rfl,e3 _ _ l3,by rw[l5.length];exact hj,?_⟩
    exact k4 σ _ g ((Gr.ex (e12.trans e3)).trans gr) I4
   ·exact False.elim k4
  |_=>exact False.elim k4
 ·exact False.elim k3
def PL(ft:Ft)(f:Str)(o e:QF):SF:=fun M ρ=>((o M ρ).at M).then ρ fun od _=>match jW M od with
 |some (h,i)=>match i.fs.lookup f,ft.has i.cls f&&decide (i.fs.length < 100) with
  |some (.dat (.int a)),true=>((e M ρ).at M).then ρ fun d _=>match d with
   |.int b=>.next ρ (M.set h (i.put f (.dat (.int (a+b)))))
   |_=>.bad
  |_,_=>.bad
 |none=>.bad
theorem afb:InOp X .Add (fun x y H Q=>∃i j,x=.int i/\y=.int j/\Q (.int (i+j)) H):=by
 intro pins s σ H x y u v Q I rx ry h
 obtain⟨i,j,rfl,rfl,q⟩:=h
 exact iop_add pins s σ H _ _ u v Q I rx ry ⟨i,j,rfl,rfl,q⟩
theorem ahn{fe:QF}{tpos:Pos}(co:jy X.K aj)(fk:Ky ft aj)(ho:QW aj X W o fo)(he:QE aj X W e fe):SE aj X W false (.AugAssign (.Attribute o f tpos) .Add e pos) (PL ft f fo fe):=by
 refine PS.weak (ps_fldaug ho he afb) fun D σ H ⟨g,ρ,M,I,z⟩=>?_
 unfold PL at z
 have k1:=Out.gK (cW (σ:=σ) z)
 refine tW.go I (k1.mono (fun _ y=>y) fun x y H' c dd ex rx=>y H' _ c dd (Gr.ex ex) (I.ex ex) rx) fun od u H1 k2 e1 ru=>?_
 have I1:=I.ex e1
 split at k2
 ·next h i hi=>
  split at k2
  ·next b hlk hb=>
   rw[aqF]at hb
   obtain⟨a,C,dx,fs,_,m1,m2,ha,rfl,c1,c2,c3,c4,c5,c6⟩:=Gx co fk I1.wok ru hi hb.1
   obtain⟨v,l1,l2⟩:=c3.get hlk
   refine⟨a,C,dx,fs,v,rfl,c2,c4,c5,l1,?_⟩
   have k2:=Out.gK (cW (σ:=σ) k2)
   refine tQ.go I1 (k2.mono (fun _ y=>y) fun x y H' c dd ex rx=>y H' _ c dd ((Gr.ex e1).trans (Gr.ex ex)) (I1.ex ex) rx) fun d w H2 k3 e2 rd=>?_
   have I2:=I1.ex e2
   cases d with
   |int j=>
    cases rd
    have l2:Rep X.K g H1 v (.int b):=l2
    cases l2
    refine⟨b,j,rfl,rfl,dx,fs,e2 _ _ c2,?_,?_⟩
    ·have:=of_decide_eq_true hb.2
     rw[c3.len]
     omega
    ·have ch:=Uo (f:=f) (C:=C) (dx:=dx) (fs':=putF f (.int (b+j)) fs) I2.kd I2.wok ha m1 m2
     have w':=I2.wok.chg I2.kd ch ha m1 m2 c6 c1 (c3.ex e2 I1.kd) upd_same (v:=.int (b+j)) (fl:=.dat (.int (b+j))) (show Rep X.K g _ _ _ from .int _)
     exact k3 σ _ g ((Gr.ex (e1.trans e2)).trans ch.gc.gr) (I2.chg ch w')
   |_=>exact False.elim k3
  ·exact False.elim k2
 ·exact False.elim k2
end
mutual
def rR:Dat->Option NestedKey
 |.none=>some .none
 |.int i=>some (.num i)
 |.str x=>some (.text x)
 |.tuple ds=>(wg ds).map .tup
 |.bool _=>none
 |.list _=>none
 |.dict _=>none
def wg:List Dat->Option (List NestedKey)
 |[]=>some []
 |d::ds=>(rR d).bind fun k=>(wg ds).bind fun ks=>some (k::ks)
end
mutual
theorem zj:∀{d:Dat} {k:NestedKey},rR d=some k->k.data=d
 |.none,_,h=>by cases h;rfl
 |.int i,_,h=>by cases h;rfl
 |.str x,_,h=>by cases h;rfl
 |.tuple ds,_,h=>by
  rw[rR,arx]at h
  obtain⟨ks,h1,rfl⟩:=h
  rw[NestedKey.data,Pn h1]
theorem Pn:∀{ds:List Dat} {ks:List NestedKey},wg ds=some ks->NestedKey.datas ks=ds
 |[],_,h=>by cases h;rfl
 |d::ds,_,h=>by
  rw[wg]at h
  obtain⟨k,h1,h⟩:=aqD.mp h
  obtain⟨ks,h2,h⟩:=aqD.mp h
  cases h
  rw[NestedKey.datas,zj h1,Pn h2]
end
mutual
theorem abp:∀a b:NestedKey,PyData.eqv a.data b.data=NestedKey.beq a b
 |.none,.none=>by simp[NestedKey.data,PyData.eqv,NestedKey.beq]
 |.none,.num _=>by simp[NestedKey.data,PyData.eqv,NestedKey.beq]
 |.none,.text _=>by simp[NestedKey.data,PyData.eqv,NestedKey.beq]
 |.none,.tup _=>by simp[NestedKey.data,PyData.eqv,NestedKey.beq]
 |.num _,.none=>by simp[NestedKey.data,PyData.eqv,NestedKey.beq]
 |.num a,.num b=>by simp[NestedKey.data,PyData.eqv,NestedKey.beq];rfl
 |.num _,.text _=>by simp[NestedKey.data,PyData.eqv,NestedKey.beq]
 |.num _,.tup _=>by simp[NestedKey.data,PyData.eqv,NestedKey.beq]
 |.text _,.none=>by simp[NestedKey.data,PyData.eqv,NestedKey.beq]
 |.text _,.num _=>by simp[NestedKey.data,PyData.eqv,NestedKey.beq]
 |.text a,.text b=>by simp[NestedKey.data,PyData.eqv,NestedKey.beq];rfl
 |.text _,.tup _=>by simp[NestedKey.data,PyData.eqv,NestedKey.beq]
 |.tup _,.none=>by simp[NestedKey.data,PyData.eqv,NestedKey.beq]
 |.tup _,.num _=>by simp[NestedKey.data,PyData.eqv,NestedKey.beq]
 |.tup _,.text _=>by simp[NestedKey.data,PyData.eqv,NestedKey.beq]
 |.tup as,.tup bs=>by
  rw[NestedKey.data,NestedKey.data,PyData.eqv,NestedKey.beq]
  exact Zo as bs
theorem Zo:∀as bs:List NestedKey,PyData.eqvAll (NestedKey.datas as) (NestedKey.datas bs)=NestedKey.beqAll as bs
 |[],[]=>by simp[NestedKey.datas,PyData.eqvAll,NestedKey.beqAll]
 |[],_::_=>by simp[NestedKey.datas,PyData.eqvAll,NestedKey.beqAll]
 |_::_,[]=>by simp[NestedKey.datas,PyData.eqvAll,NestedKey.beqAll]
 |a::as,b::bs=>by
  rw[NestedKey.datas,NestedKey.datas,PyData.eqvAll,NestedKey.beqAll,abp a b,Zo as bs]
end
theorem aaL(a b:NestedKey):PyData.eqv a.data b.data=decide (a=b):=by rw[abp,NestedKey.decide_eq]
section
variable{X:Cx}{pins:List (Addr×Obj)}{σ:L2.St}{H:Hp}{s:Shared}{g:Gh}
mutual
theorem key_is(I:L2.Inv X pins σ H s):∀{v:V} {d:Dat} {k:NestedKey} {u:Value},Rep X.K g H v d->rR d=some k->RelV v u->NestedIs s.heap k u
 |_,_,_,u,.non,e,r=>by
  cases e
  obtain rfl:u=.none:=r
  exact .none
 |_,_,_,_,.int i,e,r=>by
  cases e
  obtain⟨t,rfl⟩:=r
  exact .int i t
 |_,_,_,_,.str x,e,r=>by
  cases e
  obtain⟨t,rfl⟩:=r
  exact .text x t
 |_,_,_,u,.tup (a:=a) h t,e,r=>by
  rw[rR,arx]at e
  obtain⟨ks,h1,rfl⟩:=e
  obtain rfl:u=.ref a:=r
  obtain⟨its,r1,⟨o,e1,c1,n,d1⟩,_⟩:=I.tuple h
  exact .tup e1 c1 d1 (by simpa using aaC I t h1 r1)
 |_,_,_,_,.bl b,e,r=>by cases e
 |_,_,_,_,.lst _ _,e,r=>by cases e
 |_,_,_,_,.obj _,e,r=>by cases e
theorem aaC(I:L2.Inv X pins σ H s):∀{vs:List V} {ds:List Dat} {ks:List NestedKey} {us:List Value},aH X.K g H vs ds->wg ds=some ks->Vals vs us->NestedAll s.heap ks us
 |_,_,_,_,.nil,e,r=>by
  cases e
  cases r
  exact .nil
 |_,_,_,_,.cons h t,e,r=>by
  rw[wg]at e
  obtain⟨k,h1,e⟩:=aqD.mp e
  obtain⟨ks,h2,e⟩:=aqD.mp e
  cases e
  cases r with
  |cons r1 r2=>exact .cons (key_is I h h1 r1) (aaC I t h2 r2)
end
end
mutual
theorem aa5:∀k:NestedKey,rR k.data=some k
 |.none=>rfl
 |.num _=>rfl
 |.text _=>rfl
 |.tup ks=>by rw[NestedKey.data,rR,Ye ks];rfl
theorem Ye:∀ks:List NestedKey,wg (NestedKey.datas ks)=some ks
 |[]=>rfl
 |k::ks=>by rw[NestedKey.datas,wg,aa5 k,Ye ks];rfl
end
def dhas:Bool->List (Dat×Dat)->Dat->Out Bool
 |false,kvs,.int i=>.ok (kvs.any fun p=>PyData.eqv p.1 (.int i))
 |true,kvs,.tuple ds=>match rR (.tuple ds) with
  |some k=>match decide (k.depth<=8) with
   |true=>.ok (kvs.any fun p=>PyData.eqv p.1 (.tuple ds))
   |false=>.bad
  |none=>.bad
 |_,_,_=>.bad
def yF(M:Mo)(f:Str)(d:Dat):Option (Nat×Inst×Bool×List (Dat×Dat)):=(jW M d).bind fun p=>match p.2.fs.lookup f with
 |some (.dic b kvs)=>some (p.1,p.2,b,kvs)
 |_=>none
section
variable{aj:aO}{f:Str}
theorem Gu{K:aqE}{g:Gh}{H:Hp}{M:Mo}{d:Dat}{v:V}{h:Nat}{i:Inst}{b:Bool}{kvs:List (Dat×Dat)}(co:jy K aj)(w:fU K aj g H M)(r:dW K g H v d)(hi:yF M f d=some (h,i,b,kvs)) :
  ∃a C dx fs l,d=obj h/\M[h]?=some i/\i.cls≠""/\i.fs.lookup f=some (.dic b kvs)/\g.tbl[h]?=some a/\v=.ref a/\aj i.cls=some C/\H a=some (.ins C dx fs)/\cO K aj g H h fs i.fs/\Cls K C/\NoAttr K C f/\f∈aj.fl i.cls/\fs.lookup f=some (.ref l)/\g.ow l=some (h,f)/\ju K aj g H l b kvs:=by
 unfold yF at hi
 obtain⟨⟨h',i'⟩,h1,hi⟩:=aqD.mp hi
 split at hi
 ·next b' kvs' hl=>
  cases hi
  obtain⟨rfl,m1,m2⟩:=Iz h1
  obtain⟨a,rfl,ha⟩:=JT r
  obtain⟨C,dx,fs,c1,c2,c3⟩:=w.ins _ a _ ha m1 m2
  have hfl:=w.fd _ _ m1 f (lookup_mem hl)
  obtain⟨k1,k2⟩:=co _ C f c1 hfl
  obtain⟨u,l1,l,rfl,l3,l4⟩:=c3.get hl
  exact⟨a,C,dx,fs,l,rfl,m1,m2,hl,ha,rfl,c1,c2,c3,k1,k2,hfl,l1,l3,l4⟩
 ·cases hi
end
theorem Ue{kv:List (Key×V)}{i:Int}:∀{kvs:List (Dat×Dat)},kvs.map (·.1)=kv.map (fun p=>keyD p.1)->(kvs.any fun p=>PyData.eqv p.1 (.int i))=(valV kv (Sum.inl i)).isSome:=by
 induction kv with
 |nil=>
  intro kvs e
  cases kvs with
  |nil=>rfl
  |cons _ _=>cases e
 |cons p r ih=>
  intro kvs e
  cases kvs with
  |nil=>cases e
  |cons q t=>
   simp only[aqI,List.cons.injEq]at e
   rw[arD,ih e.2,e.1]
   by_cases h:p.1=Sum.inl i
   ·rw[valV_pos h,h]
    simp[keyD,PyData.eqv]
   ·rw[valV_neg h]
    have:PyData.eqv (keyD p.1) (.int i)=false:=by
     cases hp:p.1 with
     |inl j=>
      have:j≠i:=fun z=>h (by rw[hp,z])
      simp[keyD,PyData.eqv,this]
     |inr x=>simp[keyD,PyData.eqv]
    rw[this,Bool.false_or]
theorem Il{xs:List mj}{k:NestedKey}:∀{kvs:List (Dat×Dat)},kvs.map (·.1)=xs.map (fun x=>x.1.data)->(kvs.any fun p=>PyData.eqv p.1 k.data)=(atKey xs k).isSome:=by
 induction xs with
 |nil=>
  intro kvs e
  cases kvs with
  |nil=>rfl
  |cons _ _=>cases e
 |cons p r ih=>
  intro kvs e
  cases kvs with
  |nil=>cases e
  |cons q t=>
   simp only[aqI,List.cons.injEq]at e
   rw[arD,ih e.2,e.1,aaL]
   unfold atKey
   rw[List.find?_cons]
   cases hd:decide (p.1=k) with
   |true=>rfl
   |false=>rfl
theorem Em{X:Cx}{pins:List (Addr×Obj)}{σ:L2.St}{H:Hp}{s:Shared}{g:Gh}{l:Addr}{o:Obj}{xs:List mj}{ks:List Dat}(I:L2.Inv X pins σ H s)(h1:H l=some (iD l o))(h2:lA X.w l o xs)(h3:ks=xs.map fun x=>x.1.data)(h4:aH X.K g H (xs.map fun x=>V.ref x.2.1) ks) :
  s.heap.DictOfH (nestedKind X.prog X.w) l xs:=by
 obtain⟨z1,_,_⟩:=(show ObjOk X.prog X.w H s.heap l (iD l o) from I.hok l _ h1)
 obtain⟨es,ep,e1,e2⟩:=h2.ent
 refine⟨o,es,ep,z1,h2.ex,e1,e2,fun x hx=>?_,h2.nd⟩
 refine⟨?_,h2.dep x hx⟩
 obtain⟨n,hn⟩:=List.mem_iff_getElem?.mp hx
 obtain⟨d,hd1,hd2⟩:=h4.get' (i:=n) (v:=V.ref x.2.1) (by rw[aqQ,hn];rfl)
 rw[h3,aqQ,hn]at hd1
 cases hd1
 exact key_is I hd2 (aa5 x.1) rfl
def rInD(X:Cx)(neg:Bool):R2:=fun x y H Q=>(∃l kv i,y=.ref l/\H l=some (.dK kv)/\x=.int i/\Q (.bl (neg ^^ (valV kv (Sum.inl i)).isSome)) H)∨
 ∃(l:Addr) (o:Obj) (xs:List mj) (g:Gh) (d:Dat) (b:Addr) (k:NestedKey),y=.ref l/\H l=some (iD l o)/\lA X.w l o xs/\aH X.K g H (xs.map fun x=>V.ref x.2.1) (xs.map fun x=>x.1.data)/\x=.ref b/\Rep X.K g H x d/\rR d=some k/\k.depth<=8/\Q (.bl (neg ^^ (atKey xs k).isSome)) H
section
variable{X:Cx}
theorem op_inD(hu:X.A.units+64 < cLine):OpR X (compareOp .In) (rInD X false):=by
 intro pins s σ H x y v u Q I rx ry h
 rcases h with⟨l,kv,i,rfl,hl,rfl,q⟩|⟨l,o,xs,g,d,b,k,rfl,h1,h2,h3,rfl,h4,h5,h6,q⟩
 ·obtain rfl:u=Value.ref l:=ry
  exact d_in (by omega) I (DGet.k (k:=Sum.inl i) hl) rx fun s' I'=>⟨.bl _,H,I',rfl,by simpa using q⟩
 ·obtain rfl:u=Value.ref l:=ry
  obtain rfl:v=Value.ref b:=rx
  refine wpAny_in_heap (knd:=nestedKind X.prog X.w) (k:=k) (show X.A.in1.units+8 < cLine by show X.A.units+1+8 < cLine;omega) ⟨key_is I h4 h5 rfl,h6⟩ h2.sys (Em I h1 h2 rfl h3) ?_
  exact⟨.bl _,H,I.tok _,rfl,by simpa using q⟩
theorem op_notInD(hu:X.A.units+64 < cLine):OpR X (compareOp .NotIn) (rInD X true):=by
 intro pins s σ H x y v u Q I rx ry h
 rcases h with⟨l,kv,i,rfl,hl,rfl,q⟩|⟨l,o,xs,g,d,b,k,rfl,h1,h2,h3,rfl,h4,h5,h6,q⟩
 ·obtain rfl:u=Value.ref l:=ry
  exact d_notIn (by omega) I (DGet.k (k:=Sum.inl i) hl) rx fun s' I'=>⟨.bl _,H,I',rfl,by simpa using q⟩
 ·obtain rfl:u=Value.ref l:=ry
  obtain rfl:v=Value.ref b:=rx
  refine notIn_keyed (knd:=nestedKind X.prog X.w) (k:=k) (show X.A.in1.units+8 < cLine by show X.A.units+1+8 < cLine;omega) ⟨key_is I h4 h5 rfl,h6⟩ h2.sys ⟨xs,Em I h1 h2 rfl h3,rfl⟩ ?_
  rw[valueAt_pairsH,Option.isSome_map]
  exact⟨.bl _,H,I.tok _,rfl,by simpa using q⟩
end
def Oe(neg:Bool)(f:Str)(k o:QF):QF:=fun M ρ=>(k M ρ).bind fun d=>(o M ρ).bind fun od=>match yF M f od with
 |some (_,_,b,kvs)=>(dhas b kvs d).bind fun r=>.ok (.bool (neg ^^ r))
 |none=>.bad
section
variable{X:Cx}{aj:aO}{W:WX}{o k:Expr}{f:Str}{pos p1:Pos}{fo fk:QF}{neg:Bool}{op:CmpOp}
theorem agh(co:jy X.K aj)(hw:aj.w=X.w)(σ:L2.St)(H:Hp)(Q:VK)(h:tQ X.K aj W (Oe neg f fk fo) σ H Q):tOp (rInD X neg) (tQ X.K aj W fk) (tFld X.K (tW X.K aj W fo) f) σ H Q:=by
 obtain⟨g,ρ,M,I,h⟩:=h
 refine tQ.go I h.bnd fun d v H1 h1 e1 r1=>?_
 have I1:=I.ex e1
 refine tW.go I1 (h1.bnd.mono (fun _ z=>z) fun _ z=>z.ex e1) fun od u H2 h2 e2 r2=>?_
 have I2:=I1.ex e2
 split at h2
 ·next hh i b kvs hd=>
  obtain⟨a,C,dx,fs,l,rfl,m1,m2,ml,ha,rfl,c1,c2,c3,c4,c5,c6,l1,l2,l3⟩:=Gu co I2.wok r2 hd
  refine⟨a,C,dx,fs,.ref l,rfl,c2,c4,c5,l1,?_⟩
  have r1':=r1.ex e2 I1.kd
  unfold dhas at h2
  split at h2
  ·next i'=>
   obtain⟨kv,k1,k2,k3⟩:=l3
   cases r1'
   refine .inl ⟨l,kv,i',rfl,k1,rfl,?_⟩
   rw[Ue k2]at h2
   exact h2 _ H2 (e1.trans e2) (.bl _)
  ·next ds=>
   split at h2
   ·next kk hk=>
    split at h2
    ·next hdep=>
     obtain⟨o',xs,vs,k1,k2,k3,k4,k5,k6⟩:=l3
     have ek:=zj hk
     rw[←ek,Il k3]at h2
     rw[k3]at k4
     rw[hw]at k2
     cases r1' with
     | @tup b us _ hs ht=>exact .inr ⟨l,o',xs,g,_,b,kk,rfl,k1,k2,k4,rfl,.tup hs ht,hk,of_decide_eq_true hdep,h2 _ H2 (e1.trans e2) (.bl _)⟩
    ·exact False.elim h2
   ·exact False.elim h2
  ·exact False.elim h2
 ·exact False.elim h2
theorem akA(co:jy X.K aj)(hw:aj.w=X.w)(hr:OpR X (compareOp op) (rInD X neg))(hk:QE aj X W k fk)(ho:QW aj X W o fo)(hb:baseOk o=true):QE aj X W (.Compare k [op] [.Attribute o f p1] pos) (Oe neg f fk fo):=
 PE.weak (pe_cmpR hr hk (pe_fld ho (lX hb)) (by cases op <;> rfl)) fun σ H Q h=>agh co hw σ H Q h
end
def DPx(X:Cx)(H:Hp)(a:Addr)(y v:V)(R:Hp->Prop):Prop:=(∃kvs i,H a=some (.dK kvs)/\y=.int i/\kvs.length < sizeLine/\R (upd H a (.dK (putK kvs (Sum.inl i) v))))∨
 ∃(o:Obj) (xs:List mj) (g:Gh) (d:Dat) (b:Addr) (k:NestedKey),H a=some (iD a o)/\lA X.w a o xs/\aH X.K g H (xs.map fun x=>V.ref x.2.1) (xs.map fun x=>x.1.data)/\y=.ref b/\Rep X.K g H y d/\rR d=some k/\k.depth<=8/\xs.length < sizeLine/\∀(o':Obj) (u:Value),RelV v u->lA X.w a o' (storedH xs k b u)->R (upd H a (iD a o'))
theorem KC{P:Program}{w:World}{H:Hp}{h:Heap}{l:Addr}{o:Obj}(e:h.get? l=some o):ObjOk P w H h l (iD l o):=⟨e,⟨o,e⟩,fun _ _ e1 k=>k _ e1⟩
theorem ZW{xs:List mj}{k:NestedKey}{b:Addr}{u:Value}:(storedH xs k b u).map (·.1)=if (atKey xs k).isSome then xs.map (·.1) else xs.map (·.1)++[k]:=by
 unfold storedH
 split
 ·rw[arf]
  refine List.map_congr_left fun x _=>?_
  show(putAt k u x).1=x.1
  unfold putAt
  split <;> rfl
 ·simp
theorem Qi{xs:List mj}{k:NestedKey}{b:Addr}{u:Value}:(storedH xs k b u).length<=xs.length+1:=by
 unfold storedH
 split <;> simp
theorem Pb{xs:List mj}{k:NestedKey}{b:Addr}{u:Value}(h:∀x∈xs,x.1.depth<=8)(hk:k.depth<=8):∀x∈storedH xs k b u,x.1.depth<=8:=fun x hx=>by
 have:x.1∈(storedH xs k b u).map (·.1):=aqR.mpr ⟨x,hx,rfl⟩
 rw[ZW]at this
 have old:∀{z:NestedKey},z∈xs.map (·.1)->z.depth<=8:=fun {z} m=>by
  obtain⟨y,hy,rfl⟩:=aqR.mp m
  exact h y hy
 split at this
 ·exact old this
 ·rcases aqU.mp this with z|z
  ·exact old z
  ·rw[aqL.mp z]
   exact hk
section
variable{X:Cx}{o i value:Expr}{td ty tv:TE}{pos pos':Pos}
def am5(X:Cx)(td ty tv:TE):TS:=fun D σ H=>tv σ H fun v H1=>td σ H1 fun x H2=>ty σ H2 fun y H3=>∃a,x=.ref a/\DPx X H3 a y v fun H4=>D.nx σ H4
theorem aeE(hu:X.A.units+64 < cLine)(ho:PE X o td)(hi:PE X i ty)(hv:PE X value tv)(hs:swapsWith value (some (.Subscript o i pos')) pos.line X.env=pure false):PS X (.Assign [.Subscript o i pos'] value pos) (am5 X td ty tv):=by
 refine⟨fun pins s σ H D I h=>?_⟩
 refine wpAny_Assign_Subscript (thn (hv.run pins s σ H _ I h) fun r s1 ⟨v,H1,I1,rv,q1⟩=>thn (ho.run pins s1 σ H1 _ I1 q1) fun u s2 ⟨x,H2,I2,rx,q2⟩=>thn (hi.run pins s2 σ H2 _ I2 q2) fun iv s3 ⟨y,H3,I3,ry,a,ex,q3⟩=>?_) hs
 subst ex
 obtain rfl:u=Value.ref a:=rx
 rcases q3 with⟨kvs,j,h1,rfl,hl,q⟩|⟨ob,xs,g,d,b,k,h1,h2,h3,rfl,h4,h5,h6,hl,q⟩
 ·exact d_setItem (by omega) I3 (DPut.k (k:=Sum.inl j) h1 hl) ry rv fun s4 I4=>⟨σ,_,I4,q⟩
 ·obtain rfl:iv=Value.ref b:=ry
  refine wpAny_setItem_heap (knd:=nestedKind X.prog X.w) (k:=k) (hsz:=Nat.le_of_lt hl) (show X.A.in1.units+8 < cLine by show X.A.units+1+8 < cLine;omega) ⟨key_is I3 h4 h5 rfl,h6⟩ (Em I3 h1 h2 rfl h3) fun h' dd hs'=>?_
  obtain⟨o',es,ep,g1,g2,g3,g4,g5,g6⟩:=dd
  have nd:lA X.w a o' (storedH xs k b r):=⟨h2.sys,g2,⟨es,ep,g3,g4⟩,g6,by have:=Qi (xs:=xs) (k:=k) (b:=b) (u:=r);omega,Pb h2.dep h6⟩
  exact⟨σ,_,d_write I3 (by rw[h1];exact True.intro) hs' ⟨o',g1⟩ (KC g1),q o' r rv nd⟩
end
theorem aH.back{K:aqE}{g:Gh}{H:Hp}{vs:List V}{ds:List Dat}{v:V}{d:Dat}(h:aH K g H vs ds)(r:Rep K g H v d):aH K g H (vs++[v]) (ds++[d]):=h.append (.cons r .nil)
theorem Ml{K:aqE}{aj:aO}{f:Str}{σ:L2.St}{ρ:Env}{g:Gh}{H:Hp}{M:Mo}{h:Nat}{i:Inst}{b:Bool}{kvs':List (Dat×Dat)}{a C dx l:Addr}{fs:List (Str×V)}{o':HO}(I:SInv K aj σ H g ρ M)(m1:M[h]?=some i)(m2:i.cls≠"")(ha:g.tbl[h]?=some a)(c1:aj i.cls=some C)(c2:H a=some (.ins C dx fs))(c3:cO K aj g H h fs i.fs)(hfl:f∈aj.fl i.cls)(l1:fs.lookup f=some (.ref l))(l4:g.ow l=some (h,f))(mu:Jc o')
  (new:Gr false g g H (upd H l o')->ju K aj g (upd H l o') l b kvs'):Gr false g g H (upd H l o')/\SInv K aj σ (upd H l o') g ρ (M.set h (i.put f (.dic b kvs'))):=by
 have ch:=acz (o':=o') I.kd I.wok l4 mu
 have nla:a≠l:=fun z=>by
  subst z
  rw[I.wok.tw h a i ha m1 m2]at l4
  cases l4
 have w':=I.wok.chg I.kd ch ha m1 m2 hfl c1 (dx:=dx) c3 (v:=.ref l) (fl:=.dic b kvs') (by rw[upd_ne nla,K9 l1];exact c2) ⟨l,rfl,l4,new ch.gc.gr⟩
 exact⟨ch.gc.gr,I.chg ch w'⟩
def Mq(f:Str)(o k e:QF):SF:=fun M ρ=>((e M ρ).at M).then ρ fun v _=>((o M ρ).at M).then ρ fun od _=>match yF M f od with
 |some (h,i,b,kvs)=>((k M ρ).at M).then ρ fun d _=>match dhas b kvs d,decide (kvs.length < 100000) with
  |.ok false,true=>.next ρ (M.set h (i.put f (.dic b (kvs++[(d,v)]))))
  |_,_=>.bad
 |none=>.bad
def Ln(f:Str)(o k:QF):SF:=fun M ρ=>((o M ρ).at M).then ρ fun od _=>match yF M f od with
 |some (h,i,b,kvs)=>((k M ρ).at M).then ρ fun d _=>match dhas b kvs d,decide (kvs.length<=100000) with
  |.ok true,true=>.next ρ (M.set h (i.put f (.dic b (kvs.filter fun p=>!PyData.eqv p.1 d))))
  |_,_=>.bad
 |none=>.bad
theorem S7{kvs:List (Dat×Dat)}{b r:Bool}{d:Dat}(h:dhas b kvs d=.ok r):(kvs.any fun p=>PyData.eqv p.1 d)=r/\((b=false/\∃i,d=.int i)∨(b=true/\∃ds k,d=.tuple ds/\rR d=some k/\k.depth<=8)):=by
 unfold dhas at h
 split at h
 ·next i=>
  cases h
  exact⟨rfl,.inl ⟨rfl,i,rfl⟩⟩
 ·next ds=>
  split at h
  ·next k hk=>
   split at h
   ·next hd=>
    cases h
    exact⟨rfl,.inr ⟨rfl,ds,k,rfl,hk,of_decide_eq_true hd⟩⟩
   ·cases h
  ·cases h
 ·cases h
section
variable{X:Cx}{aj:aO}{W:WX}{o e i:Expr}{f:Str}{pos pos' p1:Pos}{fo fe fk:QF}
theorem agA(co:jy X.K aj)(hw:aj.w=X.w)(hu:X.A.units+64 < cLine)(ho:QW aj X W o fo)(hb:baseOk o=true)(hk:QE aj X W i fk)(he:QE aj X W e fe)(hs:swapsWith e (some (.Subscript (.Attribute o f p1) i pos')) pos.line X.env=pure false) :
  SE aj X W false (.Assign [.Subscript (.Attribute o f p1) i pos'] e pos) (Mq f fo fk fe):=by
 refine PS.weak (aeE hu (pe_fld ho (lX hb)) hk he hs) fun D σ H ⟨g,ρ,M,I,z⟩=>?_
 unfold Mq at z
 have k1:=Out.gK (cW (σ:=σ) z)
 refine tQ.go I (k1.mono (fun _ y=>y) fun x y H' c dd ex rx=>y H' _ c dd (Gr.ex ex) (I.ex ex) rx) fun d v H1 k2 e1 rv=>?_
 have I1:=I.ex e1
 have k2:=Out.gK (cW (σ:=σ) k2)
 refine tW.go I1 (k2.mono (fun _ y=>y) fun x y H' c dd ex rx=>y H' _ c dd ((Gr.ex e1).trans (Gr.ex ex)) (I1.ex ex) rx) fun od u H2 k3 e2 ru=>?_
 have I2:=I1.ex e2
 have e12:=e1.trans e2
 split at k3
 ·next h i' b kvs hl=>
  obtain⟨a,C,dx,fs,l,rfl,m1,m2,ml,ha,rfl,c1,c2,c3,c4,c5,c6,l1,l2,l3⟩:=Gu co I2.wok ru hl
  refine⟨a,C,dx,fs,.ref l,rfl,c2,c4,c5,l1,?_⟩
  have k3:=Out.gK (cW (σ:=σ) k3)
  refine tQ.go I2 (k3.mono (fun _ y=>y) fun x y H' c dd ex rx=>y H' _ c dd ((Gr.ex e12).trans (Gr.ex ex)) (I2.ex ex) rx) fun kd w H3 k4 e3 rk=>?_
  have I3:=I2.ex e3
  have l3':=l3.ex e3 I2.kd
  have rv3:=(rv.ex e2 I1.kd).ex e3 I2.kd
  refine⟨l,rfl,?_⟩
  split at k4
  ·next hh hz=>
   obtain⟨ha2,hcase⟩:=S7 hh
   have hz:=of_decide_eq_true hz
   rcases hcase with⟨rfl,j,rfl⟩|⟨rfl,ds,kk,rfl,hkk,hdep⟩
   ·obtain⟨kv,q1,q2,q3⟩:=l3'
    cases rk
    have hlen:kv.length=kvs.length:=by
     have:=congrArg List.length q2
     simpa using this.symm
    rw[Ue q2]at ha2
    have hn:valV kv (Sum.inl j)=none:=by
     cases hv:valV kv (Sum.inl j) with
     |none=>rfl
     |some _=>rw[hv]at ha2;cases ha2
    refine .inl ⟨kv,j,q1,rfl,sz_lt (by rw[hlen];exact hz),?_⟩
    rw[putK_new v hn]
    obtain⟨gr,I4⟩:=Ml (b:=false) (kvs':=kvs++[(.int j,d)]) (o':=.dK (kv++[(Sum.inl j,v)])) I3 m1 m2 ha c1 (e3 _ _ c2) (c3.ex e3 I2.kd) c6 l1 l2 trivial fun gr=>⟨_,upd_same,by simp[q2,keyD],by
     rw[ara,ara]
     exact(q3.gr gr I3.kd).back (rv3.gr gr I3.kd)⟩
    exact k4 σ _ g ((Gr.ex (e12.trans e3)).trans gr) I4
   ·obtain⟨o',xs,vs,q1,q2,q3,q4,q5,q6⟩:=l3'
    have hlen:xs.length=kvs.length:=by
     have:=congrArg List.length q3
     simpa using this.symm
    have ek:=zj hkk
    rw[←ek,Il q3]at ha2
    have hn:atKey xs kk=none:=by
     cases hv:atKey xs kk with
     |none=>rfl
     |some _=>rw[hv]at ha2;cases ha2
    have q4':=q4
    rw[q3]at q4'
    rw[hw]at q2
    cases rk with
    | @tup bb us _ hs' ht=>
     refine .inr ⟨o',xs,g,_,bb,kk,q1,q2,q4',rfl,.tup hs' ht,hkk,hdep,sz_lt (by rw[hlen];exact hz),fun o2 u2 ru2 nd=>?_⟩
     rw[storedH_new hn]at nd
     obtain⟨gr,I4⟩:=Ml (b:=true) (kvs':=kvs++[(.tuple ds,d)]) (o':=iD l o2) I3 m1 m2 ha c1 (e3 _ _ c2) (c3.ex e3 I2.kd) c6 l1 l2 trivial fun gr=>⟨o2,xs++[(kk,bb,u2)],vs++[v],upd_same,by rw[hw];exact nd,by simp[q3,ek],by
      rw[ara,ara]
      exact(q4.gr gr I3.kd).back ((Rep.tup hs' ht).gr gr I3.kd),by
      rw[ara]
      exact q5.append (.cons ru2 .nil),by
      rw[ara]
      exact(q6.gr gr I3.kd).back (rv3.gr gr I3.kd)⟩
     exact k4 σ _ g ((Gr.ex (e12.trans e3)).trans gr) I4
  ·exact False.elim k4
 ·exact False.elim k3
end
section
variable{X:Cx}{o i:Expr}{td ty:TE}{pos tpos:Pos}
def amq(X:Cx)(td ty:TE):TS:=fun D σ H=>td σ H fun x H2=>ty σ H2 fun y H3=>∃a,x=.ref a/\((∃kvs i,H3 a=some (.dK kvs)/\y=.int i/\(valV kvs (Sum.inl i)).isSome=true/\D.nx σ (upd H3 a (.dK (dropK kvs (Sum.inl i)))))∨
 ∃(o:Obj) (xs:List mj) (g:Gh) (d:Dat) (b:Addr) (k:NestedKey),H3 a=some (iD a o)/\lA X.w a o xs/\aH X.K g H3 (xs.map fun x=>V.ref x.2.1) (xs.map fun x=>x.1.data)/\y=.ref b/\Rep X.K g H3 y d/\rR d=some k/\k.depth<=8/\(atKey xs k).isSome=true/\∀(o':Obj),lA X.w a o' (withoutH xs k)->D.nx σ (upd H3 a (iD a o')))
theorem afn(hu:X.A.units+64 < cLine)(ho:PE X o td)(hi:PE X i ty):PS X (.Delete [.Subscript o i tpos] pos) (amq X td ty):=by
 refine⟨fun pins s σ H D I h=>?_⟩
 refine wpAny_Delete (wpAny_deleteEach_cons (wpAny_delete_Subscript (thn (ho.run pins s σ H _ I h) fun u s1 ⟨x,H1,I1,rx,q1⟩=>thn (hi.run pins s1 σ H1 _ I1 q1) fun iv s2 ⟨y,H2,I2,ry,a,ex,q2⟩=>?_)))
 subst ex
 obtain rfl:u=Value.ref a:=rx
 rcases q2 with⟨kvs,j,h1,rfl,hl,q⟩|⟨ob,xs,g,d,b,k,h1,h2,h3,rfl,h4,h5,h6,hl,q⟩
 ·exact d_delItem (k:=Sum.inl j) I2 h1 ry hl fun s3 I3=>wpAny_deleteEach_nil ⟨σ,_,I3,q⟩
 ·obtain rfl:iv=Value.ref b:=ry
  obtain⟨p,hp⟩:=Option.isSome_iff_exists.mp hl
  refine wpAny_delItem_heap (knd:=nestedKind X.prog X.w) (k:=k) (hsz:=h2.len) (show X.A.in1.units+8 < cLine by show X.A.units+1+8 < cLine;omega) ⟨key_is I2 h4 h5 rfl,h6⟩ h2.sys (Em I2 h1 h2 rfl h3) hp fun h' dd hs'=>?_
  obtain⟨o',es,ep,g1,g2,g3,g4,g5,g6⟩:=dd
  have nd:lA X.w a o' (withoutH xs k):=⟨h2.sys,g2,⟨es,ep,g3,g4⟩,g6,aq7 (aqW _ _) h2.len,fun x hx=>h2.dep x (aq1.mp hx).1⟩
  exact wpAny_deleteEach_nil ⟨σ,_,d_write I2 (by rw[h1];exact True.intro) hs' ⟨o',g1⟩ (KC g1),q o' nd⟩
end
theorem Ny{α β:Type}(f:α->β)(c:α->Bool):∀l:List α,(((l.map f).zip l).filter fun p=>c p.2).map (·.1)=(l.filter c).map f
 |[]=>rfl
 |a::l=>by
  rw[aqI,arF,arw,arw]
  cases c a
  ·exact Ny f c l
  ·simp only[if_true,aqI,Ny f c l]
theorem afP{K:aqE}{g:Gh}{H:Hp}(kk:NestedKey):∀{xs:List mj} {vs:List V} {kvs:List (Dat×Dat)},kvs.map (·.1)=xs.map (fun x=>x.1.data)->aH K g H (xs.map fun x=>V.ref x.2.1) (kvs.map (·.1))->Vals vs (xs.map (·.2.2))->aH K g H vs (kvs.map (·.2))->
  ∃vs',(kvs.filter fun p=>!PyData.eqv p.1 kk.data).map (·.1)=(withoutH xs kk).map (fun x=>x.1.data)/\aH K g H ((withoutH xs kk).map fun x=>V.ref x.2.1) ((kvs.filter fun p=>!PyData.eqv p.1 kk.data).map (·.1))/\Vals vs' ((withoutH xs kk).map (·.2.2))/\aH K g H vs' ((kvs.filter fun p=>!PyData.eqv p.1 kk.data).map (·.2))
 |[],_,[],_,_,.nil,_=>⟨[],rfl,.nil,.nil,.nil⟩
 |[],_,_::_,h,_,_,_=>by cases h
 |_::_,_,[],h,_,_,_=>by cases h
 |x::xs,_,q::qs,h1,.cons r1 t1,.cons w1 w2,.cons r2 t2=>by
  simp only[aqI,List.cons.injEq]at h1
  obtain⟨vs',i1,i2,i3,i4⟩:=afP kk h1.2 t1 w2 t2
  have hq:(!PyData.eqv q.1 kk.data)=decide (x.1≠kk):=by
   rw[h1.1,aaL]
   by_cases hz:x.1=kk <;> simp[hz]
  unfold withoutH
  rw[arw,arw,hq]
  cases hb:decide (x.1≠kk) with
  |true=>exact⟨_::vs',by simp only[if_true,aqI,h1.1];exact congrArg _ i1,by simp only[if_true,aqI];exact .cons r1 i2,by simp only[if_true,aqI];exact .cons w1 i3,by simp only[if_true,aqI];exact .cons r2 i4⟩
  |false=>
   simp only[aq9,if_false]
   exact⟨vs',i1,i2,i3,i4⟩
theorem ah7{K:aqE}{g:Gh}{H:Hp}{α:Type}(c:α->Bool)(key:α->Dat)(dd:Dat->Bool):∀{vs:List V} {kvs:List (Dat×Dat)} {xs:List α},(∀x∈xs,c x=dd (key x))->kvs.map (·.1)=xs.map key->vs.length=xs.length->aH K g H vs (kvs.map (·.2))->
  (kvs.filter fun p=>dd p.1).map (·.1)=(xs.filter c).map key/\aH K g H (((vs.zip xs).filter fun p=>c p.2).map (·.1)) ((kvs.filter fun p=>dd p.1).map (·.2))
 |[],[],[],_,_,_,_=>⟨rfl,.nil⟩
 |[],[],_::_,_,h,_,_=>by cases h
 |[],_::_,_,_,_,_,h=>by cases h
 |_::_,[],_,_,_,_,h=>by cases h
 |_::_,_::_,[],_,h,_,_=>by cases h
 |u::us,q::qs,x::xs,hc,hk,hl,.cons h t=>by
  simp only[aqI,List.cons.injEq]at hk
  have hq:=hc x aqK
  rw[←hk.1]at hq
  obtain⟨i1,i2⟩:=ah7 c key dd (fun y hy=>hc y (aqJ _ hy)) hk.2 (arv hl) t
  rw[arF,arw,arw,arw,hq]
  cases hb:dd q.1 with
  |true=>exact⟨by simp only[if_true,aqI,i1,hk.1],by simp only[if_true,aqI];exact .cons h i2⟩
  |false=>exact⟨by simpa using i1,by simpa using i2⟩
section
variable{X:Cx}{aj:aO}{W:WX}{o i:Expr}{f:Str}{pos tpos p1:Pos}{fo fk:QF}
theorem ahO(co:jy X.K aj)(hw:aj.w=X.w)(hu:X.A.units+64 < cLine)(ho:QW aj X W o fo)(hb:baseOk o=true)(hk:QE aj X W i fk):SE aj X W false (.Delete [.Subscript (.Attribute o f p1) i tpos] pos) (Ln f fo fk):=by
 refine PS.weak (afn hu (pe_fld ho (lX hb)) hk) fun D σ H ⟨g,ρ,M,I,z⟩=>?_
 unfold Ln at z
 have k2:=Out.gK (cW (σ:=σ) z)
 refine tW.go I (k2.mono (fun _ y=>y) fun x y H' c dd ex rx=>y H' _ c dd (Gr.ex ex) (I.ex ex) rx) fun od u H2 k3 e2 ru=>?_
 have I2:=I.ex e2
 split at k3
 ·next h i' b kvs hl=>
  obtain⟨a,C,dx,fs,l,rfl,m1,m2,ml,ha,rfl,c1,c2,c3,c4,c5,c6,l1,l2,l3⟩:=Gu co I2.wok ru hl
  refine⟨a,C,dx,fs,.ref l,rfl,c2,c4,c5,l1,?_⟩
  have k3:=Out.gK (cW (σ:=σ) k3)
  refine tQ.go I2 (k3.mono (fun _ y=>y) fun x y H' c dd ex rx=>y H' _ c dd ((Gr.ex e2).trans (Gr.ex ex)) (I2.ex ex) rx) fun kd w H3 k4 e3 rk=>?_
  have I3:=I2.ex e3
  have l3':=l3.ex e3 I2.kd
  refine⟨l,rfl,?_⟩
  split at k4
  ·next hh hz=>
   obtain⟨ha2,hcase⟩:=S7 hh
   rcases hcase with⟨rfl,j,rfl⟩|⟨rfl,ds,kk,rfl,hkk,hdep⟩
   ·obtain⟨kv,q1,q2,q3⟩:=l3'
    cases rk
    rw[Ue q2]at ha2
    refine .inl ⟨kv,j,q1,rfl,ha2,?_⟩
    have hf:=fun(H':Hp)(r:aH X.K g H' (kv.map (·.2)) (kvs.map (·.2)))=>ah7 (K:=X.K) (g:=g) (H:=H') (fun p:Key×V=>decide (p.1≠Sum.inl j)) (fun p=>keyD p.1) (fun z=>!PyData.eqv z (.int j)) (vs:=kv.map (·.2)) (kvs:=kvs) (xs:=kv) (fun x _=>by
     cases hx:x.1 with
     |inl z=>by_cases hz:z=j <;> simp[keyD,PyData.eqv,hz]
     |inr z=>simp[keyD,PyData.eqv]) q2 (by simp) r
    have ez:(((kv.map (·.2)).zip kv).filter fun p=>decide (p.2.1≠Sum.inl j)).map (·.1)=(dropK kv (Sum.inl j)).map (·.2):=Ny (·.2) (fun p:Key×V=>decide (p.1≠Sum.inl j)) kv
    obtain⟨gr,I4⟩:=Ml (b:=false) (kvs':=kvs.filter fun p=>!PyData.eqv p.1 (.int j)) (o':=.dK (dropK kv (Sum.inl j))) I3 m1 m2 ha c1 (e3 _ _ c2) (c3.ex e3 I2.kd) c6 l1 l2 trivial fun gr=>⟨_,upd_same,(hf _ (q3.gr gr I3.kd)).1,by
     rw[←ez]
     exact(hf _ (q3.gr gr I3.kd)).2⟩
    exact k4 σ _ g ((Gr.ex (e2.trans e3)).trans gr) I4
   ·obtain⟨o',xs,vs,q1,q2,q3,q4,q5,q6⟩:=l3'
    have ek:=zj hkk
    rw[←ek,Il q3]at ha2
    rw[hw]at q2
    have q4':=q4
    rw[q3]at q4'
    cases rk with
    | @tup bb us _ hs' ht=>
     refine .inr ⟨o',xs,g,_,bb,kk,q1,q2,q4',rfl,.tup hs' ht,hkk,hdep,ha2,fun o2 nd=>?_⟩
     obtain⟨gr,I4⟩:=Ml (b:=true) (kvs':=kvs.filter fun p=>!PyData.eqv p.1 (.tuple ds)) (o':=iD l o2) I3 m1 m2 ha c1 (e3 _ _ c2) (c3.ex e3 I2.kd) c6 l1 l2 trivial fun gr=>by
      obtain⟨vs',i1,i2,i3,i4⟩:=afP kk q3 (q4.gr gr I3.kd) q5 (q6.gr gr I3.kd)
      rw[ek]at i1 i2 i4
      exact⟨o2,withoutH xs kk,vs',upd_same,by rw[hw];exact nd,i1,i2,i3,i4⟩
     exact k4 σ _ g ((Gr.ex (e2.trans e3)).trans gr) I4
  ·exact False.elim k4
 ·exact False.elim k3
end
def ItD(l:Addr)(o:Obj)(xs:List mj):It:=
 ⟨fun i H=>H l=some (iD l o)/\i < xs.length,fun i H x H'=>H'=H/\∃e,xs[i]?=some e/\x=.ref e.2.1,fun i H=>H l=some (iD l o)/\xs.length<=i⟩
theorem pin_at{X:Cx}{pins:List (Addr×Obj)}{σ:L2.St}{H:Hp}{s:Shared}{l:Addr}{o:Obj}(I:L2.Inv X pins σ H s)(h:H l=some (iD l o)):s.heap.get? l=some o:=(show ObjOk X.prog X.w H s.heap l (iD l o) from I.hok l _ h).1
theorem lA.at{w:World}{l:Addr}{o:Obj}{xs:List mj}{es:Array DictEntry}{ep:Nat}(n:lA w l o xs)(h:o.data=.dict es ep):es.size=xs.length/\∀(i:Nat) (e:mj),xs[i]?=some e->∃en,es[i]?=some en/\en.key=.ref e.2.1:=by
 obtain⟨es',ep',h1,h2⟩:=n.ent
 rw[h]at h1
 cases h1
 refine⟨?_,fun i e hi=>⟨ade w e,?_,rfl⟩⟩
 ·have:=congrArg List.length h2
  simpa using this
 ·rw[←aro,h2,aqQ,hi]
  rfl
theorem akS{P:Program}{w:World}{K:aqE}{tg:Expr}{l:Addr}{o:Obj}{xs:List mj}{es:Array DictEntry}{ep:Nat}(it:Addr)(n:lA w l o xs)(hod:o.data=.dict es ep):Turn P w K tg (ItD l o xs) [it] it (fun i h=>h.IsKeyIter it l i xs.length ep) where
 mem:=aqL.mpr rfl
 obj:=fun i h st b hb=>by
  cases aqL.mp hb
  obtain⟨oi,e,c,dd⟩:=st
  refine⟨oi,e,fun v z=>?_⟩
  rw[dd]at z
  cases z
 keep:=fun i h h' st k=>st.at (k it (aqL.mpr rfl))
 item:=by
  intro X hP hw hK hc i pins s σ H E I hf st hg
  subst hP hw hK
  obtain⟨g0,g1,g2,g3,g4,g5⟩:=hf it (aqL.mpr rfl)
  obtain⟨sz,ent⟩:=n.at hod
  have hlt:i < xs.length:=hg.2
  have hx:xs[i]?=some xs[i]:=aqH hlt
  obtain⟨en,e1,e2⟩:=ent i _ hx
  refine next_key_item st (pin_at I hg.1) hod sz e1 ?_
  intro h' st' sb
  have J:L2.Inv X pins σ H { s with heap:=h' }:=I.turned (t':=s.toks) (fun b ob hb e=>(sb.2 b hb).trans e) g0 g1 g3 g4 g5
  obtain⟨oi,a1,a2,a3⟩:=id st'
  exact⟨en.key,rfl,go_of (s:={ s with heap:=h' }) a1 a2 a3 (by decide) ⟨.ref xs[i].2.1,H,J,e2,⟨rfl,_,hx,rfl⟩,st',fun b hb=>(hf b hb).1⟩⟩
 done:=by
  intro X hP hw hK hc i pins s σ H E I hf st hg
  subst hP hw hK
  obtain⟨g0,g1,g2,g3,g4,g5⟩:=hf it (aqL.mpr rfl)
  exact next_key_end (I.ok.hd hc) st (pin_at I hg.1) hod (n.at hod).1 hg.2 fun h' eb=>⟨rfl,I.turned (t':=s.toks) (fun b ob hb e=>eb b ob hb e) g0 g1 g3 g4 g5⟩
 self:=fun A i s Q E st h=>by
  refine wpAny_pyIter_slot st.typeIs PySem.F.slot_dict_keyiterator_iter (wpAny_call_entry PySem.F.slot_dict_keyiterator_iter st.typeIs PySem.F.entry_dict_keyiterator_iter ?_ (PySem.F.args_dict_keyiterator_iter_1 _))
  exact wpAny_pure ⟨_,rfl,"dict_keyiterator",_,st.typeIs,PySem.F.slot_dict_keyiterator_next.lookup,h⟩
def amn(X:Cx)(td:TE):TI:=fun σ H R=>td σ H fun x H1=>∃l o xs,x=.ref l/\H1 l=some (iD l o)/\lA X.w l o xs/\R (ItD l o xs) H1
theorem ajS{X:Cx}{tg e:Expr}{td:TE}(he:PE X e td):PI X tg e (amn X td):=by
 constructor
 intro pins s σ H R I h
 refine thn (he.run pins s σ H _ I h) ?_
 rintro u s1 ⟨x,H1,I1,rx,l,o,xs,rfl,hl,n,q⟩
 obtain rfl:u=Value.ref l:=rx
 obtain⟨es,ep,hd,_⟩:=n.ent
 refine iter_keys n.sys (pin_at I1 hl) n.ex hd (pi_one (tk:=s1.toks) I1 _ (akS _ n hd) ⟨_,Heap.get?_push_size _ rfl,rfl,?_⟩ q)
 rw[(n.at hd).1] <;> rfl
theorem agO{K:aqE}{aj:aO}{l:Addr}{o:Obj}{xs:List mj}{ks:List Dat}:Jp K (ItD l o xs) (fun g H=>H l=some (iD l o)/\aH K g H (xs.map fun x=>V.ref x.2.1) ks) ks where
 go:=fun g i H c hi=>⟨c.1,by have:=c.2.length;simp at this;omega⟩
 yld:=fun g i H x H' d k c e y=>by
  obtain⟨rfl,en,h1,rfl⟩:=y
  obtain⟨v,h2,h3⟩:=c.2.get e
  rw[aqQ,h1]at h2
  cases h2
  exact⟨Ex.refl _,h3⟩
 stop:=fun g i H c e=>⟨c.1,by have:=c.2.length;simp at this;omega⟩
 ex:=fun g H H' k c e=>⟨e _ _ c.1,c.2.ex e k⟩
 add:=fun g g' H H' k c r e=>⟨e _ _ c.1,c.2.gr r k⟩
def BK(f:Str)(o:QF):IF:=fun M ρ=>(o M ρ).bind fun od=>match yF M f od with
 |some (_,_,true,kvs)=>.ok (kvs.map (·.1))
 |_=>.bad
def BX(f:Str)(o:QF):QF:=fun M ρ=>(o M ρ).bind fun od=>match yF M f od with
 |some (_,_,_,kvs)=>.ok (.list (kvs.map (·.1)))
 |none=>.bad
section
variable{X:Cx}{aj:aO}{W:WX}{o tg:Expr}{f:Str}{pos p p1:Pos}{fo:QF}
theorem ae3(co:jy X.K aj)(hw:aj.w=X.w)(ho:QW aj X W o fo)(hb:baseOk o=true):QI aj X W false tg (.Attribute o f p1) (BK f fo):=by
 have h0:=ajS (tg:=tg) (pe_fld (X:=X) (pos:=p1) (f:=f) ho (lX hb))
 refine⟨fun pins s σ H R I h=>h0.run pins s σ H R I ?_⟩
 obtain⟨g,ρ,M,J,h⟩:=h
 unfold BK at h
 refine tW.go J h.bnd fun od u H1 k2 e1 ru=>?_
 have J1:=J.ex e1
 split at k2
 ·next h i kvs hl=>
  obtain⟨a,C,dx,fs,l,rfl,m1,m2,ml,ha,rfl,c1,c2,c3,c4,c5,c6,l1,l2,o',xs,vs,q1,q2,q3,q4,q5,q6⟩:=Gu co J1.wok ru hl
  rw[hw]at q2
  exact⟨a,C,dx,fs,.ref l,rfl,c2,c4,c5,l1,l,o',xs,rfl,q1,q2,k2 _ _ H1 e1 (agO (aj:=aj)) ⟨q1,q4⟩ fun z=>nomatch z⟩
 ·exact False.elim k2
end
theorem afD{P:Program}{w:World}{A:Around}{l I:Addr}{o:Obj}{xs:List mj}{es:Array DictEntry}{ep:Nat}(hh:A.handled=none)(hne:l≠I)(n:lA w l o xs)(hd:o.data=.dict es ep):Walks P w A I [I,l] [I] xs.length (fun i v=>∃e,xs[i]?=some e/\v=Value.ref e.2.1) (fun i h=>h.IsKeyIter I l i xs.length ep/\h.get? l=some o) where
 sub:=fun b hb=>by simp at hb;simp[hb]
 frame:=fun i h h' st k=>⟨st.1.at (k I (by simp)),k l (by simp) o st.2⟩
 item:=fun i s Q E hi st hQ=>by
  obtain⟨sz,ent⟩:=n.at hd
  have hx:xs[i]?=some xs[i]:=aqH hi
  obtain⟨en,e1,e2⟩:=ent i _ hx
  refine next_key_item st.1 st.2 hd sz e1 ?_
  intro h' st' sb
  exact hQ en.key h' s.toks ⟨_,hx,e2⟩ ⟨st',(sb.2 l hne).trans st.2⟩ fun b ob hb e=>(sb.2 b fun z=>hb (by simp[z])).trans e
 done:=fun s Q E st hQ=>next_key_end hh st.1 st.2 hd (n.at hd).1 (aq2 _) fun h' eb=>hQ h' s.toks fun b ob hb e=>eb b ob (fun z=>hb (by simp[z])) e
 self:=fun i s Q E st hQ=>wpAny_pyIter_keyiter st.1 hQ
theorem ahQ{P:Program}{w:World}{l:Addr}{o:Obj}{xs:List mj}(n:lA w l o xs):PySem.W.KdlSrc P w "dict" l l xs.length (fun i v=>∃e,xs[i]?=some e/\v=Value.ref e.2.1) (fun h=>h.get? l=some o) where
 type:=fun s e=>⟨o,e,n.ex.1⟩
 there:=fun h e=>⟨Heap.lt_size e,Heap.lt_size e⟩
 keep:=fun h h' e k=>k l (.inl rfl) o e
 notList:=by decide
 notTuple:=by decide
 hint:=fun A E s Q e hq=>PySem.W.kdl_hint_dict ⟨o,e,n.ex.1⟩ hq
 iter:=fun A s hh e=>by
  obtain⟨es,ep,hd,_⟩:=n.ent
  refine⟨_,_,fun E Q hq=>iter_keys n.sys e n.ex hd hq,afD hh (ard (Heap.lt_size e)) n hd,⟨_,Heap.get?_push_size _ rfl,rfl,?_⟩,Heap.get?_push_of_some _ e⟩
  rw[(n.at hd).1] <;> rfl
def ael(X:Cx):List V->Hp->VK->Prop:=fun xs H Q=>(∃p kvs,xs=[.ref p]/\H p=some (.dK kvs)/\∀q,H q=none->Q (.ref q) (upd H q (.lst (kvs.map fun kv=>kV kv.1))))∨∃p o es,xs=[.ref p]/\H p=some (iD p o)/\lA X.w p o es/\∀q,H q=none->Q (.ref q) (upd H q (.lst (es.map fun e=>V.ref e.2.1)))
theorem abI{X:Cx}(hc:X.calm=true):CallR X (.type "list") (ael X):=by
 intro pins s σ H xs us Q I r h
 rcases h with h|⟨p,o,es,rfl,hp,n,q⟩
 ·exact call_list_dK hc pins s σ H xs us Q I r h
 ·obtain⟨u,rfl,rx⟩:=vals1 r
  obtain rfl:u=Value.ref p:=rx
  refine PySem.W.kdl_call (ahQ n) (I.ok.hd hc) (pin_at I hp) n.len ?_
  intro h' tk acc c' keep hS hacc
  have el:acc.toList.length=es.length:=by
   rw[ari]
   exact hacc.1
  refine⟨.ref s.heap.objs.size,upd H s.heap.objs.size (.lst (es.map fun e=>V.ref e.2.1)),I.laid keep (aq2 _) (show ObjOk X.prog X.w _ _ _ (.lst (es.map fun e=>V.ref e.2.1)) from⟨by rw[aqO];exact n.len,acc.toList,c',?_,?_⟩),rfl,q _ (I.hok.fresh (aq2 _))⟩
  ·refine vals_of_at (by rw[aqO,el]) fun j x w h1 h2=>?_
   obtain⟨e,he,rfl⟩:=hacc.2 j w (by rw[←aro];exact h2)
   rw[aqQ,he]at h1
   cases h1
   rfl
  ·rw[Array.toArray_toList]
   exact hS
section
variable{X:Cx}{aj:aO}{W:WX}{o e:Expr}{f:Str}{pos p p1 pos':Pos}{fo:QF}
theorem Xl{K:aqE}{g:Gh}{H:Hp}:∀{kv:List (Key×V)} {kvs:List (Dat×Dat)},kvs.map (·.1)=kv.map (fun p=>keyD p.1)->aH K g H (kv.map fun p=>kV p.1) (kvs.map (·.1))
 |[],[],_=>.nil
 |[],_::_,h=>by cases h
 |_::_,[],h=>by cases h
 |a::kv,b::kvs,h=>by
  simp only[aqI,List.cons.injEq]at h
  rw[aqI,aqI,h.1]
  refine .cons ?_ (Xl h.2)
  cases a.1 with
  |inl i=>exact .int i
  |inr x=>exact .str x
theorem afh(co:jy X.K aj)(hw:aj.w=X.w)(σ:L2.St)(H:Hp)(Q:VK)(h:tQ X.K aj W (BX f fo) σ H Q):tFld X.K (tW X.K aj W fo) f σ H fun x H1=>ael X [x] H1 Q:=by
 obtain⟨g,ρ,M,J,h⟩:=h
 unfold BX at h
 refine tW.go J h.bnd fun od u H1 k2 e1 ru=>?_
 have J1:=J.ex e1
 split at k2
 ·next h i b kvs hl=>
  obtain⟨a,C,dx,fs,l,rfl,m1,m2,ml,ha,rfl,c1,c2,c3,c4,c5,c6,l1,l2,l3⟩:=Gu co J1.wok ru hl
  refine⟨a,C,dx,fs,.ref l,rfl,c2,c4,c5,l1,?_⟩
  cases b with
  |false=>
   obtain⟨kv,q1,q2,q3⟩:=l3
   exact .inl ⟨l,kv,rfl,q1,fun q nq=>k2 (.ref q) _ (e1.trans (Ex.new nq)) (.lst (.inl ⟨.inl upd_same,J1.kd.fresh nq⟩) (Xl q2))⟩
  |true=>
   obtain⟨o',xs,vs,q1,q2,q3,q4,q5,q6⟩:=l3
   rw[hw]at q2
   exact .inr ⟨l,o',xs,rfl,q1,q2,fun q nq=>k2 (.ref q) _ (e1.trans (Ex.new nq)) (.lst (.inl ⟨.inl upd_same,J1.kd.fresh nq⟩) (q4.ex (Ex.new nq) J1.kd))⟩
 ·exact False.elim k2
theorem aeF(co:jy X.K aj)(hw:aj.w=X.w)(hc:X.calm=true)(hg:Gl X "list")(hm:X.mg "list"=none)(ho:QW aj X W o fo)(hb:baseOk o=true):QE aj X W (.Call (.Name "list" p) [.Attribute o f p1] [] pos) (BX f fo):=by
 have h1:=pa_cons (pe_fld (X:=X) (pos:=p1) (f:=f) ho (lX hb)) pa_nil (cI rfl [])
 have hv:BV (.type "list") "list":=⟨by decide +kernel,by decide,by decide⟩
 refine PE.weak (pe_callTy (pos:=pos) (p:=p) (abI hc) hg hm hv.1 h1 hv.2.1 hv.2.2 (cI rfl []) (by with_unfolding_all rfl)) fun σ H Q h=>?_
 exact afh co hw σ H Q h
def Lq(ft:Ft)(o:QF)(f:Str)(b:Bool):SF:=fun M ρ=>((o (M++[⟨"",[]⟩]) ρ).at (M++[⟨"",[]⟩])).then ρ fun od M2=>match jW M2 od with
 |some (h,i)=>match ft.has i.cls f&&decide (i.fs.length < 100) with
  |true=>.next ρ (M2.set h (i.put f (.dic b [])))
  |false=>.bad
 |none=>.bad
def alD(X:Cx)(b:Bool):TE:=fun _ H Q=>∀p,H p=none->match b with
 |false=>Q (.ref p) (upd H p (.dK []))
 |true=>∀o,lA X.w p o []->Q (.ref p) (upd H p (iD p o))
theorem agm{b:Bool}:PE X (.Dict [] [] pos) (alD X b):=by
 cases b with
 |false=>exact PE.weak pe_dnewK fun σ H Q h p np=>h p np
 |true=>
  refine⟨fun pins s σ H Q I h=>wpAny_Dict_empty ?_⟩
  have hz:(s.heap.push { cls:=.type "dict",data:=.dict #[] }).get? s.heap.objs.size=some { cls:=.type "dict",data:=.dict #[] }:=Heap.get?_push_size _ rfl
  have hs:(s.heap.objs.size==sysModules)=false:=beq_eq_false_iff_ne.mpr (Ne.symm (ard I.big))
  exact⟨.ref s.heap.objs.size,_,I.laid (a:=s.heap.objs.size) (o:=iD s.heap.objs.size _) (t':=s.toks) (fun _ _ q=>Heap.get?_push_of_some _ q) (aq2 _) (KC hz),rfl,h _ (I.hok.fresh (aq2 _)) _ ⟨hs,⟨rfl,rfl,rfl⟩,⟨#[],0,rfl,rfl⟩,arR,arn _,fun x hx=>absurd hx arh⟩⟩
theorem agV{ft:Ft}{b:Bool}(co:jy X.K aj)(fk:Ky ft aj)(hw:aj.w=X.w)(ho:QW aj X W o fo)(hs:swapsWith (.Dict [] [] p) (some (.Attribute o f pos')) pos.line X.env=pure false):SE aj X W false (.Assign [.Attribute o f pos'] (.Dict [] [] p) pos) (Lq ft fo f b):=by
 refine PS.weak (ps_fld ho (agm (b:=b)) hs) fun D σ H ⟨g,ρ,M,I,z⟩=>?_
 have core:∀(l:Addr) (ob:HO),H l=none->Jc ob->(∀(g':Gh) (H':Hp),H' l=some ob->ju X.K aj g' H' l b [])->tW X.K aj W fo σ (upd H l ob) (fun x H2=>∃a C dx fs,x=.ref a/\H2 a=some (.ins C dx fs)/\Cls X.K C/\NoAttr X.K C f/\fs.length < 1000/\D.nx σ (upd H2 a (.ins C dx (putF f (.ref l) fs)))):=by
  intro l ob nl mu at'
  obtain⟨gr,I1,tb,ow,mm⟩:=JG I nl (Ex.new nl) upd_same mu
  unfold Lq at z
  have k1:=Out.gK (cW (σ:=σ) z)
  refine tW.go I1 (k1.mono (fun _ y=>y) fun x y H' c dd ex rx=>y H' _ c dd (gr.trans (Gr.ex ex)) (I1.ex ex) rx) fun od u H2 k2 e2 ru=>?_
  have I2:=I1.ex e2
  split at k2
  ·next h i hi=>
   split at k2
   ·next hb=>
    rw[aqF]at hb
    obtain⟨a,C,dx,fs,_,m1,m2,ha,rfl,c1,c2,c3,c4,c5,c6⟩:=Gx co fk I2.wok ru hi hb.1
    have nla:l≠a:=fun z=>by
     subst z
     cases I2.wok.inj _ _ _ ha tb
     rw[mm]at m1
     cases m1
     exact m2 rfl
    refine⟨a,C,dx,fs,rfl,c2,c4,c5,?_,?_⟩
    ·have:=of_decide_eq_true hb.2
     rw[c3.len]
     omega
    ·have ch:=Ul (f:=f) (C:=C) (dx:=dx) (fs':=putF f (.ref l) fs) I2.kd I2.wok ha m1 m2 tb mm ow
     have w':=I2.wok.chg I2.kd ch ha m1 m2 c6 c1 c3 upd_same (v:=.ref l) (fl:=.dic b []) ⟨l,rfl,if_pos rfl,at' _ _ (by rw[upd_ne nla];exact e2 _ _ upd_same)⟩
     exact k2 σ _ _ ((gr.trans (Gr.ex e2)).trans ch.gc.gr) (I2.chg ch w')
   ·exact False.elim k2
  ·exact False.elim k2
 intro l nl
 cases b with
 |false=>exact core l _ nl trivial fun g' H' h=>⟨[],h,rfl,.nil⟩
 |true=>exact fun ob nd=>core l _ nl trivial fun g' H' h=>⟨ob,[],[],h,by rw[hw];exact nd,rfl,.nil,.nil,.nil⟩
end
def ajo(X:Cx)(D:Addr)(vs:List Nat)(g:TG)(tk:TE)(σ:L2.St)(Nx:Hp->Prop)(x:V)(H:Hp):Prop:=
 g x (L2.wipe σ vs) H fun σ2 H2=>L2.wipe σ2 vs=L2.wipe σ vs/\tk σ2 H2 fun y H4=>∃(o:Obj) (xs:List mj) (gg:Gh) (d:Dat) (b:Addr) (k:NestedKey),y=.ref b/\H4 D=some (iD D o)/\lA X.w D o xs/\aH X.K gg H4 (xs.map fun x=>V.ref x.2.1) (xs.map fun x=>x.1.data)/\Rep X.K gg H4 y d/\rR d=some k/\k.depth<=8/\xs.length < sizeLine/\
  ∀o',lA X.w D o' (storedH xs k b (.bool true))->Nx (upd H4 D (iD D o'))
def aiq(X:Cx)(wi:TI)(g:TG)(tk:TE)(vs:List Nat):TE:=fun σ H Q=>wi σ H fun J H1=>∀D,H1 D=none->∃W:Nat->Nat->Hp->Prop,(∃m,∀o,lA X.w D o []->W 0 m (upd H1 D (iD D o)))/\
 ∀i m H,W i m H->(J.stop i H/\Q (.ref D) H)∨(J.go i H/\∃Nx:Hp->Prop,(∀H',Nx H'->∃m',m' < m/\W (i+1) m' H')/\∀x H',J.yld i H x H'->ajo X D vs g tk σ Nx x H')
section
variable{X:Cx}
theorem afw{pins:List (Addr×Obj)}{σ:L2.St}{H:Hp}{s:Shared}{E:Value->Shared->Prop}{D b:Addr}{o:Obj}{xs:List mj}{gg:Gh}{d:Dat}{k:NestedKey}{u:Value}{Q:Unit->Shared->Prop}(hu:X.A.units+64 < cLine)(I:L2.Inv X pins σ H s)(hD:H D=some (iD D o))(n:lA X.w D o xs)(hr:aH X.K gg H (xs.map fun x=>V.ref x.2.1) (xs.map fun x=>x.1.data))(hk:Rep X.K gg H (.ref b) d)(hd:rR d=some k)(h8:k.depth<=8)(hz:xs.length < sizeLine)(ru:RelV (.bl true) u)
  (q:∀s' o',lA X.w D o' (storedH xs k b (.bool true))->L2.Inv X pins σ (upd H D (iD D o')) s'->Q () s'):wpAny (model X.prog X.w) X.A (dictSet D (.ref b) u) Q E s:=by
 obtain rfl:u=.bool true:=ru
 refine wpAny_dictSet_heap (knd:=nestedKind X.prog X.w) (k:=k) (hsz:=Nat.le_of_lt hz) (show X.A.units+8 < cLine by omega) ⟨key_is I hk hd rfl,h8⟩ (Em I hD n rfl hr) ?_
 intro h' dd hs'
 obtain⟨o',es,ep,g1,g2,g3,g4,g5,g6⟩:=dd
 have nd:lA X.w D o' (storedH xs k b (.bool true)):=⟨n.sys,g2,⟨es,ep,g3,g4⟩,g6,by have:=Qi (xs:=xs) (k:=k) (b:=b) (u:=.bool true);omega,Pb n.dep h8⟩
 exact q _ o' nd (d_write I (by rw[hD];exact True.intro) hs' ⟨o',g1⟩ (KC g1))
theorem aj2{kx tg iter:Expr}{scope:Scope}{own:List (PySem.Str×Nat)}{pos vp:Pos}{vj:Nat}{wi:TI}{g:TG}{tk:TE}(hc:X.calm=true)(hN:X.N.Nodup)(hu:X.A.units+64 < cLine)(hi:PI X tg iter wi)(ok:BlkOk X.N X.env.scope scope own)
  (hg:∀(t:Shared) (G:Hp) (C:Addr) (cl:List (PySem.Str×Addr)) (fp:List Addr),PG (X.blk t G scope (compEnvC scope cl C X.env) fp) tg g)
  (hk:∀(t:Shared) (G:Hp) (C:Addr) (cl:List (PySem.Str×Addr)) (fp:List Addr),PE (X.blk t G scope (compEnvC scope cl C X.env) fp) kx tk) (hs:∀x,foldedSetIterable iter X.env x=pure x) :
  PE X (.DictComp kx (.Constant (.bool true) vj vp) [⟨tg,iter,[],0⟩] scope pos) (aiq X wi g tk (own.map (·.2))):=by
 refine⟨fun pins s σ H Q I h=>?_⟩
 rw[arm_eval_DictComp]
 have cells:∀y∈scope.names,y.2=.free->∃c,X.env.cells.lookup y.1=some c:=fun y hy e=>(ok.free y hy e).elim (fun k=>I.ok.has _ (.inl k)) (fun k=>I.ok.has _ (.inr k))
 refine wpAny_comprehension_free rfl hs (closure_ok cells) ok.kind (fun y hy e=>by rw[ok.uniq y hy,e]) (thn (hi.run pins s σ H _ I h) fun _ _ hx=>thn hx fun itv t0 h0=>?_)
 obtain⟨it,fp,tn,J,G0,rfl,I0,T,st0,f0,q⟩:=h0
 refine wpAny_newObj_type (newEnv_comp ?_)
 -- the new dict,at D
 obtain⟨D,hD⟩:∃D,D=t0.heap.objs.size:=⟨_,rfl⟩
 rw[←hD]
 obtain⟨W,⟨m0,w00⟩,turn⟩:=q D (I0.hok.fresh (Nat.le_of_eq hD.symm))
 obtain⟨ob,hob⟩:∃ob:Obj,ob={ cls:=.type "dict",data:=.dict #[] }:=⟨_,rfl⟩
 have nd0:lA X.w D ob []:=by
  rw[hob]
  exact⟨by rw[hD];exact beq_eq_false_iff_ne.mpr (Ne.symm (ard I0.big)),⟨rfl,rfl,rfl⟩,⟨#[],0,rfl,rfl⟩,arR,arn _,fun x hx=>absurd hx arh⟩
 have w0:=w00 ob nd0
 rw[←hob]
 obtain⟨t1,ht1⟩:∃t1:Shared,t1={ t0 with heap:=t0.heap.push ob }:=⟨_,rfl⟩
 obtain⟨G1,hG1⟩:∃G1,G1=upd G0 D (iD D ob):=⟨_,rfl⟩
 rw[←hG1]at w0
 have grow:∀b o,t0.heap.get? b=some o->t1.heap.get? b=some o:=fun b o e=>by rw[ht1];exact Heap.get?_push_of_some _ e
 have I1:L2.Inv X pins σ G1 t1:=by
  rw[ht1,hG1]
  refine I0.laid (t':=t0.toks) (fun b o e=>Heap.get?_push_of_some _ e) (Nat.le_of_eq hD.symm) (KC ?_)
  rw[hD]
  exact Heap.get?_push_size _ (by rw[hob];rfl)
 have small:∀b∈fp,b < t0.heap.objs.size:=fun b hb=>by
  obtain⟨o,e,_⟩:=T.obj _ _ st0 b hb
  exact Heap.lt_size e
 have f1:∀b∈fp,FpOk X pins G1 b/\b < t1.heap.objs.size:=fun b hb=>by
  have hlt:=small b hb
  refine⟨⟨?_,(f0 b hb).2⟩,by rw[ht1];show b < (t0.heap.push ob).objs.size;rw[Heap.size_push];exact arH hlt⟩
  rw[hG1,upd_ne (by rw[hD];exact ard hlt)]
  exact(f0 b hb).1
 have st1:tn 0 t1.heap:=T.keep _ _ _ st0 fun b _ o e=>grow b o e
 have I2:=block_start I1 ok hN f1
 have pg:=hg t1 G1 t1.heap.objs.size (cellsFrom (t1.heap.objs.size+1) scope.names (cloFrom X.env.cells scope.names [])) fp
 have pk:=hk t1 G1 t1.heap.objs.size (cellsFrom (t1.heap.objs.size+1) scope.names (cloFrom X.env.cells scope.names [])) fp
 have none1:∀b∈fp,G1 b=none:=fun b hb=>(f1 b hb).1.1
 rw[show({ t0 with heap:=t0.heap.push ob }:Shared)=t1 from ht1.symm]
 obtain⟨ce,hce⟩:∃ce,ce=compEnvC scope (cellsFrom (t1.heap.objs.size+1) scope.names (cloFrom X.env.cells scope.names [])) t1.heap.objs.size X.env:=⟨_,rfl⟩
 rw[←hce]at I2 pg pk
 have cL:ce.locals=t1.heap.objs.size:=by rw[hce];rfl
 obtain⟨t2,ht2⟩:∃t2:Shared,t2={ t1 with heap:=pushCells (t1.heap.push { cls:=.type "dict",data:=.dict #[] }) scope.names }:=⟨_,rfl⟩
 rw[←ht2]at I2
 have st2:tn 0 t2.heap:=T.keep _ _ _ st1 fun b _ o e=>by rw[ht2];exact pushCells_keeps _ _ _ _ (Heap.get?_push_of_some _ e)
 have still:∀{σ':L2.St} {G':Hp} {t':Shared},L2.Inv (X.blk t1 G1 scope ce fp) [] σ' G' t'->(∀b∈fp,G' b=none)->∀b∈fp,FpOk (X.blk t1 G1 scope ce fp) [] G' b:=fun I' hn b hb=>
  ⟨hn b hb,(I'.ok.exf b hb).1,I'.ok.exfs b hb,.inl hb,fun x c e=>(I'.ok.exf b hb).2 x c e,fun p hp=>absurd (show p∈([]:List (Addr×Obj))++[] from hp) (by simp)⟩
 have pt:PTs (X.blk t1 G1 scope ce fp) [] tYes:=pts_nil
 have pv:PE (X.blk t1 G1 scope ce fp) (.Constant (.bool true) vj vp) (tC (.bl true)):=pe_bl
 have loop:codeAny (model X.prog X.w) X.A (.compLoop (.DictComp kx (.Constant (.bool true) vj vp) [⟨tg,iter,[],0⟩] scope pos) 0 (.ref it) (.ref D) ce) (compPost (model X.prog X.w) X.A X.xe none (EP X pins σ Q) (.ref D) t1.heap.objs.size) t2:=by
  refine compLoop_anyD (fun n t'=>∃i G',L2.Inv (X.blk t1 G1 scope ce fp) [] (L2.wipe σ (own.map (·.2))) G' t'/\tn i t'.heap/\(∀b∈fp,G' b=none)/\W i n G') ?_ m0 ⟨0,G1,I2,st2,none1,w0⟩
  rintro n t3 ⟨i,G3,I3,st3,n3,w3⟩
  rcases turn i n G3 w3 with⟨stop,fin⟩|⟨go,Nx,hNx,step⟩
  ·refine thnF (T.done (X.blk t1 G1 scope ce fp) rfl rfl rfl hc i [] t3 _ G3 (fun _ _=>False) I3 (still I3 n3) st3 stop) fun r t4 ⟨hr,I4⟩=>?_
   subst hr
   have I5:L2.Inv X pins σ G3 t4:=I1.call' (ch:=fp) I4.os I4.base I4.hok I4.bare fun b hb=>⟨(f1 b hb).1.2.2.2.1,(f1 b hb).1.2.1,(f1 b hb).1.2.2.2.2.1,(f1 b hb).1.2.2.2.2.2⟩
   have nC:G3 t1.heap.objs.size=none:=by rw[←cL];exact I4.free
   obtain⟨m,hn,_⟩:=I4.loc
   have hn':t4.heap.Ns t1.heap.objs.size m:=by rw[←cL];exact hn
   obtain⟨a0,a1,_,a3,a4,a5⟩:=I1.fpOk (aq2 _) nC
   exact⟨m,hn',fun h'' sb=>⟨.ref D,G3,I5.turned (t':=t4.toks) (fun b o hb e=>(sb.2 b hb).trans e) a0 a1 a3 a4 a5,rfl,fin⟩⟩
  ·refine thnF (T.item (X.blk t1 G1 scope ce fp) rfl rfl rfl hc i [] t3 _ G3 (fun _ _=>False) I3 (still I3 n3) st3 go) fun r t4 ⟨u,hr,h4⟩=>?_
   subst hr
   refine thnF h4 fun _ t5 ⟨x,G5,I5,r5,y5,st5,n5⟩=>?_
   refine thnF (pg.run _ t5 _ G5 x u _ (I5.pinned (still I5 n5) (T.obj _ _ st5)) r5 (step x G5 y5)) fun _ t6 ⟨σ6,G6,I6,hw6,q6⟩=>?_
   refine thnF (pt.run _ t6 σ6 G6 (fun b G=>b=true/\G=G6) I6 ⟨rfl,rfl⟩) fun b t7 ⟨G7,I7,hb7,hG7⟩=>?_
   subst hb7 hG7
   have over:∀{t':Shared} {G':Hp},L2.Inv (X.blk t1 G1 scope ce fp) ([]++pinsAt fp t5.heap) σ6 G' t'->Nx G'->∃m,m < n/\∃i G',L2.Inv (X.blk t1 G1 scope ce fp) [] (L2.wipe σ (own.map (·.2))) G' t'/\tn i t'.heap/\(∀b∈fp,G' b=none)/\W i m G':=fun {t' G'} I' nx=>by
    obtain⟨m',hm,w'⟩:=hNx G' nx
    have pin:∀b∈fp,∀o,t5.heap.get? b=some o->t'.heap.get? b=some o/\G' b=none:=fun b hb o e=>
     let z:=I'.pin (b,o) (arG _ (arG _ (mem_pinsAt hb e)))
     ⟨z.1,z.2.1⟩
    refine⟨m',hm,i+1,G',(I'.unpinned (pins:=[])).weak (by rw[←hw6,wipe_length]) (fun j v e=>?_),T.keep _ _ _ st5 fun b hb o e=>(pin b hb o e).1,fun b hb=>?_,w'⟩
    ·rw[←hw6]at e
     exact(wipe_some e).1
    ·obtain⟨o,e,_⟩:=T.obj _ _ st5 b hb
     exact(pin b hb o e).2
   simp only[if_true]
   refine thnF (pk.run _ t7 σ6 _ _ I7 q6) fun z t8 ⟨yv,G8,I8,r8,o8,xs8,g8,d8,b8,k8,ey,hD8,n8,hr8,hk8,hd8,h88,hz8,nx⟩=>?_
   subst ey
   obtain rfl:z=Value.ref b8:=r8
   refine thnF (pv.run _ t8 σ6 G8 (fun v G=>v=.bl true/\G=G8) I8 ⟨rfl,rfl⟩) fun z2 t9 ⟨y9,G9,I9,r9,hv9,hG9⟩=>?_
   subst hv9 hG9
   exact afw (X:=X.blk t1 G1 scope ce fp) hu I9 hD8 n8 hr8 hk8 hd8 h88 hz8 r9 fun s' o' nd I10=>over I10 (nx o' nd)
 have done:=codeAny_compStart_dict loop (T.self X.A 0 _ _ _ st2 loop)
 rw[hce,ht2]at done
 subst hob
 exact done
end
def CZ(tg:fK)(tk:QF)(M:Mo)(ρ:Env):List Dat->List (Dat×Dat)->Out (List (Dat×Dat))
 |[],acc=>.ok acc
 |d::ds,acc=>match tg d ρ with
  |none=>.bad
  |some ρ1=>(xK (tk M ρ1)).bind fun kd=>(dhas true acc kd).bind fun r=>CZ tg tk M ρ ds (match r with
   |true=>acc
   |false=>acc++[(kd,.bool true)])
def qDc(it:IF)(tg:fK)(vs:List Nat)(tk:QF):Mo->Env->Out (List (Dat×Dat)):=fun M ρ=>(it M ρ).bind fun ds=>Out.when (decide (ds.length<=50000)) (CZ tg tk M (cC ρ vs) ds [])
def aiZ(K:aqE)(aj:aO)(W:WX)(f:Mo->Env->Out (List (Dat×Dat))):TE:=fun σ H Q=>∃g ρ M,SInv K aj σ H g ρ M/\(f M ρ).sat (fun kvs=>∀l o H',H l=none->Ex H H'->H' l=some (iD l o)->ju K aj (g.add l) H' l true kvs->Q (.ref l) H') (qG K aj W g H σ)
section
variable{X:Cx}{aj:aO}{W:WX}
theorem U7{tg:fK}{tk:QF}{M:Mo}{ρ:Env}:∀{ds:List Dat} {acc:List (Dat×Dat)} {x:dJ},CZ tg tk M ρ ds acc≠.exc x
 |[],_,_,h=>nomatch h
 |d::ds,acc,x,h=>by
  rw[CZ]at h
  split at h
  ·cases h
  ·next ρ1 e=>
   cases h1:tk M ρ1 with
   |bad=>rw[h1]at h;cases h
   |exc y=>rw[h1]at h;cases h
   |ok kd=>
    rw[h1]at h
    have h:((dhas true acc kd).bind fun r=>CZ tg tk M ρ ds (match r with
     |true=>acc
     |false=>acc++[(kd,.bool true)]))=.exc x:=h
    cases h2:dhas true acc kd with
    |bad=>rw[h2]at h;cases h
    |exc y=>
     unfold dhas at h2
     split at h2
     ·cases h2
     ·split at h2
      ·split at h2 <;> cases h2
      ·cases h2
     ·cases h2
    |ok r=>
     rw[h2]at h
     exact U7 h
theorem aew{xs:List mj}{k:NestedKey}(h:∀x∈xs,x.2.2=.bool true):xs.map (putAt k (.bool true))=xs:=by
 have:∀x∈xs,putAt k (.bool true) x=x:=fun x hx=>by
  unfold putAt
  split
  ·obtain⟨a,b,c⟩:=x
   have:c=.bool true:=h _ hx
   rw[this]
  ·rfl
 calc xs.map (putAt k (.bool true))=xs.map id:=List.map_congr_left this
  _=xs:=List.map_id xs
theorem aaU:∀{xs:List mj},(∀x∈xs,x.2.2=.bool true)->Vals (List.replicate xs.length (.bl true)) (xs.map (·.2.2))
 |[],_=>.nil
 |x::xs,h=>by
  rw[aqS,List.replicate_succ,aqI,h x aqK]
  exact .cons rfl (aaU fun y hy=>h y (aqJ _ hy))
theorem aaK{K:aqE}{g:Gh}{H:Hp}:∀{kvs:List (Dat×Dat)} {n:Nat},n=kvs.length->(∀p∈kvs,p.2=.bool true)->aH K g H (List.replicate n (.bl true)) (kvs.map (·.2))
 |[],_,h,_=>by subst h;exact .nil
 |p::kvs,_,e,h=>by
  subst e
  rw[aqS,List.replicate_succ,aqI,h p aqK]
  exact .cons (.bl true) (aaK rfl fun y hy=>h y (aqJ _ hy))
theorem alM{it:IF}{tg:fK}{js vs:List Nat}{tk:QF}(hw:aj.w=X.w)(hj:∀j∈js,j∈vs)(σ:L2.St)(H:Hp)(Q:VK)(h:aiZ X.K aj W (qDc it tg vs tk) σ H Q) :
  aiq X (tI X.K aj W false it) (zJ X.K aj js tg) (tQ X.K aj WF tk) vs σ H Q:=by
 obtain⟨g,ρ,M,I,h⟩:=h
 refine⟨g,ρ,M,I,h.bnd.mono (fun ds hk J C H1 e1 w c _ D nD=>?_) fun _ z=>z⟩
 obtain⟨hz,hk⟩:=hk.pU
 have hlen:=of_decide_eq_true hz
 obtain⟨total,htot,hQ⟩:∃total,CZ tg tk M (cC ρ vs) ds []=.ok total/\∀l o H',H l=none->Ex H H'->H' l=some (iD l o)->ju X.K aj (g.add l) H' l true total->Q (.ref l) H':=by
  cases hc:CZ tg tk M (cC ρ vs) ds [] with
  |bad=>rw[hc]at hk;exact False.elim hk
  |exc x=>exact absurd hc U7
  |ok total=>
   rw[hc]at hk
   exact⟨total,rfl,hk⟩
 have I1:=(I.ex e1).wipe vs
 have kD:∀{Ha:Hp} {o:Obj},Ex H1 Ha->Ha D=some (iD D o)->SInv X.K aj (L2.wipe σ vs) Ha (g.add D) (cC ρ vs) M:=fun ea hu=>I1.add nD ea hu trivial
 let Pv:Nat->Hp->Prop:=fun i Ha=>Ex H1 Ha/\i<=ds.length/\∃o xs acc,Ha D=some (iD D o)/\lA X.w D o xs/\acc.map (·.1)=xs.map (fun x=>x.1.data)/\aH X.K (g.add D) Ha (xs.map fun x=>V.ref x.2.1) (acc.map (·.1))/\(∀x∈xs,x.2.2=.bool true)/\(∀p∈acc,p.2=.bool true)/\acc.length<=i/\CZ tg tk M (cC ρ vs) (ds.drop i) acc=.ok total
 refine⟨fun i m Ha=>m=ds.length - i/\Pv i Ha,⟨ds.length,fun o n0=>⟨rfl,Ex.new nD,arn _,o,[],[],upd_same,n0,rfl,.nil,fun x hx=>absurd hx arh,fun x hx=>absurd hx arh,aq2 _,by rw[arX];exact htot⟩⟩,?_⟩
 rintro i m Ha ⟨rfl,ea,hi,o,xs,acc,hu,nd,hK,hR,hT,hA,hy,hs⟩
 have Ia:=kD ea hu
 have Ca:=w.add g (g.add D) H1 Ha (I.kd.ex e1) c (Gh.Et nD ea) ea
 have lxs:xs.length=acc.length:=by
  have:=congrArg List.length hK
  simpa using this.symm
 by_cases hlt:i < ds.length
 ·refine .inr ⟨w.go _ i Ha Ca hlt,Pv (i+1),fun H' p=>⟨ds.length - (i+1),by omega,rfl,p⟩,fun x H' y=>?_⟩
  have hd:ds[i]?=some ds[i]:=aqH hlt
  obtain⟨e2,rx⟩:=w.yld _ i Ha x H' _ Ia.kd Ca hd y
  have I2:=Ia.ex e2
  rw[arz hlt,CZ]at hs
  split at hs
  ·cases hs
  ·next ρ1 he=>
   refine⟨g.add D,_,M,_,ρ1,I2,rx,he,fun ws I3=>⟨zG js ws _ vs hj |>.trans (CQ σ vs),?_⟩⟩
   cases htk:tk M ρ1 with
   |bad=>rw[htk]at hs;cases hs
   |exc z=>rw[htk]at hs;cases hs
   |ok kd=>
    rw[htk]at hs
    have hs:((dhas true acc kd).bind fun r=>CZ tg tk M (cC ρ vs) (ds.drop (i+1)) (match r with
     |true=>acc
     |false=>acc++[(kd,.bool true)]))=.ok total:=hs
    refine⟨g.add D,ρ1,M,I3,?_⟩
    rw[htk]
    intro v H4 e4 ry
    have I4:=I3.ex e4
    have hu4:=e4 _ _ (e2 _ _ hu)
    have hR4:=(hR.ex e2 Ia.kd).ex e4 I2.kd
    cases hh:dhas true acc kd with
    |bad=>rw[hh]at hs;cases hs
    |exc z=>rw[hh]at hs;cases hs
    |ok r=>
     rw[hh]at hs
     obtain⟨ha2,hcase⟩:=S7 hh
     rcases hcase with⟨z,_⟩|⟨_,dd,kk,rfl,hkk,hdep⟩
     ·cases z
     ·have ek:=zj hkk
      rw[←ek,Il hK]at ha2
      have hRx:=hR4
      rw[hK]at hRx
      cases ry with
      | @tup bb us _ hs' ht=>
       refine⟨o,xs,g.add D,_,bb,kk,rfl,hu4,nd,hRx,.tup hs' ht,hkk,hdep,sz_lt (by omega),fun o' nd'=>?_⟩
       have eD:Ex H1 (upd H4 D (iD D o')):=Ex.mut ((ea.trans e2).trans e4) nD
       have lD:(g.add D).Lo D:=.inr rfl
       have up:Gr true (g.add D) (g.add D) H4 (upd H4 D (iD D o')):=Gr.upd I4.kd hu4 (.inr lD)
       cases r with
       |true=>
        obtain⟨q,hq⟩:=Option.isSome_iff_exists.mp ha2
        rw[storedH_old hq,aew hT]at nd'
        exact⟨eD,hlt,o',xs,acc,upd_same,nd',hK,hR4.gr up I4.kd,hT,hA,by omega,hs⟩
       |false=>
        have hn:atKey xs kk=none:=by
         cases hv:atKey xs kk with
         |none=>rfl
         |some _=>rw[hv]at ha2;cases ha2
        rw[storedH_new hn]at nd'
        have hs:CZ tg tk M (cC ρ vs) (ds.drop (i+1)) (acc++[(.tuple dd,.bool true)])=.ok total:=hs
        refine⟨eD,hlt,o',xs++[(kk,bb,.bool true)],acc++[(.tuple dd,.bool true)],upd_same,nd',by simp[hK,ek],?_,?_,?_,by simp;omega,hs⟩
        ·rw[ara,ara]
         exact(hR4.gr up I4.kd).back ((Rep.tup hs' ht).gr up I4.kd)
        ·intro x hx
         rcases aqU.mp hx with z|z
         ·exact hT x z
         ·rw[aqL.mp z]
        ·intro x hx
         rcases aqU.mp hx with z|z
         ·exact hA x z
         ·rw[aqL.mp z]
 ·have e:i=ds.length:=by omega
  refine .inl ⟨w.stop _ i Ha Ca e,?_⟩
  rw[e,arE]at hs
  cases hs
  exact hQ D o Ha (BW e1 D nD) (e1.trans ea) hu ⟨o,xs,List.replicate xs.length (.bl true),hu,by rw[hw];exact nd,hK,hR,aaU hT,aaK lxs hA⟩
def Qs(ft:Ft)(o:QF)(f:Str)(e:Mo->Env->Out (List (Dat×Dat))):SF:=fun M ρ=>((e M ρ).at M).then ρ fun kvs _=>((o (M++[⟨"",[]⟩]) ρ).at (M++[⟨"",[]⟩])).then ρ fun od M2=>match jW M2 od with
 |some (h,i)=>match ft.has i.cls f&&decide (i.fs.length < 100) with
  |true=>.next ρ (M2.set h (i.put f (.dic true kvs)))
  |false=>.bad
 |none=>.bad
end
theorem Y7{K:aqE}{g:Gh}{H:Hp}{l:Addr}{vs:List V}{ds:List Dat}(h:aH K (g.add l) H vs ds):aH K (g.push l) H vs ds:=aH.mv (g:=g.add l) (g':=g.push l) (fun h a z=>by
  have z:g.tbl[h]?=some a:=z
  show(g.tbl++[l])[h]?=some a
  rw[aqP (aqG.mp z).1]
  exact z) (fun a z=>by
  rcases Y0 z with z|rfl
  ·rcases z with z|z|z
   ·exact .inl z
   ·exact .inr (.inl z)
   ·exact .inr (.inr (show g.Lo a∨a=l from Or.inl z))
  ·exact .inr (.inr (show g.Lo a∨a=a from Or.inr rfl))) h
section
variable{X:Cx}{aj:aO}{W:WX}{o e:Expr}{f:Str}{pos pos':Pos}{ft:Ft}{fo:QF}
theorem ahH{fe:Mo->Env->Out (List (Dat×Dat))}{te:TE}(co:jy X.K aj)(fk:Ky ft aj)(ho:QW aj X W o fo)(he:PE X e te)(hte:∀σ H Q,aiZ X.K aj W fe σ H Q->te σ H Q)(hs:swapsWith e (some (.Attribute o f pos')) pos.line X.env=pure false):SE aj X W false (.Assign [.Attribute o f pos'] e pos) (Qs ft fo f fe):=by
 refine PS.weak (ps_fld ho he hs) fun D σ H ⟨g,ρ,M,I,z⟩=>hte σ H _ ⟨g,ρ,M,I,?_⟩
 unfold Qs at z
 cases hf:fe M ρ with
 |exc x=>rw[hf]at z;exact fun H' c dd e r=>z σ H' g c dd (Gr.ex e) (I.ex e) r.fr
 |bad=>rw[hf]at z;exact False.elim z
 |ok kvs=>
  rw[hf]at z
  intro l ob H1 nl e1 hl dic
  obtain⟨gr,I1,tb,ow,mm⟩:=JG I nl e1 hl trivial
  have dic1:ju X.K aj (g.push l) H1 l true kvs:=by
   obtain⟨o',xs,vs,q1,q2,q3,q4,q5,q6⟩:=dic
   exact⟨o',xs,vs,q1,q2,q3,Y7 q4,q5,Y7 q6⟩
  have z:(((fo (M++[⟨"",[]⟩]) ρ).at (M++[⟨"",[]⟩])).then ρ fun od M2=>match jW M2 od with
   |some (h,i)=>match ft.has i.cls f&&decide (i.fs.length < 100) with
    |true=>.next ρ (M2.set h (i.put f (.dic true kvs)))
    |false=>.bad
   |none=>.bad).sat (sN X.K aj false D.nx g H) (sR X.K aj false D.rt g H) (sN X.K aj false D.bk g H) (sN X.K aj false D.ct g H) (sX X.K aj W false g H):=z
  have k1:=Out.gK (cW (σ:=σ) z)
  refine tW.go I1 (k1.mono (fun _ y=>y) fun x y H' c dd ex rx=>y H' _ c dd (gr.trans (Gr.ex ex)) (I1.ex ex) rx) fun od u H2 k2 e2 ru=>?_
  have I2:=I1.ex e2
  split at k2
  ·next h i hi=>
   split at k2
   ·next hb=>
    rw[aqF]at hb
    obtain⟨a,C,dx,fs,_,m1,m2,ha,rfl,c1,c2,c3,c4,c5,c6⟩:=Gx co fk I2.wok ru hi hb.1
    have nla:l≠a:=fun z=>by
     subst z
     cases I2.wok.inj _ _ _ ha tb
     rw[mm]at m1
     cases m1
     exact m2 rfl
    refine⟨a,C,dx,fs,rfl,c2,c4,c5,?_,?_⟩
    ·have:=of_decide_eq_true hb.2
     rw[c3.len]
     omega
    ·have ch:=Ul (f:=f) (C:=C) (dx:=dx) (fs':=putF f (.ref l) fs) I2.kd I2.wok ha m1 m2 tb mm ow
     have w':=I2.wok.chg I2.kd ch ha m1 m2 c6 c1 c3 upd_same (v:=.ref l) (fl:=.dic true kvs) ⟨l,rfl,if_pos rfl,ju.chg ch.gc.gr I2.kd (upd_ne nla) (dic1.ex e2 I1.kd)⟩
     exact k2 σ _ _ ((gr.trans (Gr.ex e2)).trans ch.gc.gr) (I2.chg ch w')
   ·exact False.elim k2
  ·exact False.elim k2
end
end Rf
namespace Ear
open PySem PySem.Spec PyProof.Rows L2 Evl RZ
abbrev xg(K:aqE)(H:Hp)(v:V)(r:Rw):Prop:=Dp K H v (rD r)
@[irreducible]def K6 (K:aqE) (w:World):List V->Hp->VK->Prop:=fun vs H Q=>∃(l:Addr) (ws:List V) (R D:List Rw),vs=[V.ref l]/\SqL K H l ws/\eV (xg K H) ws R/\D.length<=76/\(∀r∈R,r∈D)/\
 ∀(p:Addr) (L:List Ent),H p=none->(∀e∈L,xg K H (.ref e.1) e.2)->(L.map Prod.snd).Nodup->(∀r,r∈L.map Prod.snd↔r∈R)->L.length<=76->Q (.ref p) (upd H p (Mg w p L))
@[irreducible]def Om (K:aqE) (w:World):List V->Hp->VK->Prop:=fun vs H Q=>∃(a:Addr) (L:List Ent),vs=[V.ref a]/\H a=some (Mg w a L)/\(∀e∈L,xg K H (.ref e.1) e.2)/\(L.map Prod.snd).Nodup/\L.length<=76/\
 ∀(ys:List V) (M:List Rw) (p:Addr),eV (xg K H) ys M->UW M->(∀r,r∈M↔r∈L.map Prod.snd)->H p=none->Q (.ref p) (upd H p (.lst ys))
section
variable{X:Cx}
theorem afc{pins:List (Addr×Obj)}{σ:L2.St}{H:Hp}{s:Shared}(I:Inv X pins σ H s){t:Addr}{r:Rw}(h:xg X.K H (.ref t) r):RI s.heap r t:=by
 refine⟨?_,by rw[aex];decide⟩
 unfold xg rD dT at h
 cases h with
 |tup h1 t1=>
  cases t1 with
  |cons a1 t1=>
   cases t1 with
   |cons a2 t1=>
    cases t1
    cases a1
    cases a2 with
    |tup h2 t2=>
     obtain⟨us,rv,⟨o,ho,hc,n,hd⟩,_⟩:=I.tuple h1
     obtain⟨us2,rv2,⟨o2,ho2,hc2,n2,hd2⟩,_⟩:=I.tuple h2
     refine .tup ho hc hd ?_
     cases rv with
     |cons r1 rv=>
      cases rv with
      |cons r2 rv=>
       cases rv
       obtain⟨tk,rfl⟩:=r1
       cases r2
       have e:∀{vs:List V} {l:List Int},DpAll X.K H vs (l.map PyData.int)->vs=l.map V.int:=by
        intro vs l
        induction l generalizing vs with
        |nil=>intro z;cases z;rfl
        |cons i l ih=>
         intro z
         cases z with
         |cons b1 b2=>
          cases b1
          rw[ih b2]
          rfl
       rw[e t2]at rv2
       exact .cons (.int r.1 tk) (.cons (.tup ho2 hc2 hd2 (by simpa using Vy (P:=X.prog) (w:=X.w) r.2 us2 rv2)) .nil)
theorem Ro{K:aqE}{H:Hp}:∀(ws:List V) (R:List Rw),eV (xg K H) ws R->∃ks:List Ent,ws=(ks.map fun p=>V.ref p.1)/\ks.map Prod.snd=R/\∀p∈ks,xg K H (.ref p.1) p.2
 |[],[],_=>⟨[],rfl,rfl,by simp⟩
 |[],_::_,h=>nomatch h.1
 |_::_,[],h=>nomatch h.1
 |v::ws,r::R,h=>by
  obtain⟨ks,e1,e2,e3⟩:=Ro ws R ⟨arv h.1,fun i v x a b=>h.2 (i+1) v x a b⟩
  have hr:xg K H v r:=h.2 0 v r rfl rfl
  have ev:∃t,v=.ref t:=by
   have z:=hr
   unfold xg rD at z
   cases z with
   |tup _ _=>exact⟨_,rfl⟩
  obtain⟨t,rfl⟩:=ev
  refine⟨(t,r)::ks,by rw[aqI,←e1],by rw[aqI,e2],fun p hp=>?_⟩
  rcases aqV.mp hp with e|hp
  ·rw[e];exact hr
  ·exact e3 p hp
theorem aaj(hu:X.A.units+65 < cLine)(hc:X.calm=true):CallR X (.type "set") (K6 X.K X.w):=by
 intro pins s σ H vs us Q I r h
 unfold K6 at h
 obtain⟨l,ws,R,D,rfl,hl,hA,hD,hRD,q⟩:=h
 rw[Vals.ref1 r]
 obtain⟨ks,e1,e2,e3⟩:=Ro ws R hA
 obtain⟨its,rv,pl,hz⟩:=I.list hl
 rw[e1]at rv
 have mem:∀p∈ks,p.2∈R:=fun p hp=>by
  rw[←e2]
  exact aqR.mpr ⟨p,hp,rfl⟩
 have hn:H s.heap.objs.size=none:=I.hok.fresh (aq2 _)
 refine aam (P:=X.prog) (w:=X.w) (hf:=fun r=>(ni X.prog X.w).hash r) (fun _=>rfl) ks D hD (fun p hp=>hRD _ (mem p hp)) (I.ok.hd hc) pl.isList (by simpa using Ux rv) (fun p hp=>afc I (e3 p hp)) (by omega) fun h' tk L es ep t S g k=>?_
 have fitL:t.fits es.size=true:=qj.fits (s:={ s with heap:=h',toks:=tk }) S
 have new:ObjOk X.prog X.w (upd H s.heap.objs.size (Mg X.w s.heap.objs.size L)) h' s.heap.objs.size (Mg X.w s.heap.objs.size L):=by
  obtain⟨o,ho,hr⟩:=S.ob
  refine⟨⟨_,es,ep,t,S.ob,S.en,fitL,S.tab.ris,S.ld⟩,⟨o,ho⟩,fun h1 h2 z k2=>?_⟩
  obtain⟨hf2,es2,ep2,t2,⟨o2,ho2,hr2⟩,rest⟩:=(show abB X.w h1 s.heap.objs.size L from z)
  exact⟨hf2,es2,ep2,t2,⟨o2,k2 o2 ho2,hr2⟩,rest⟩
 refine⟨.ref s.heap.objs.size,upd H s.heap.objs.size (Mg X.w s.heap.objs.size L),I.laid (t':=tk) k (aq2 _) new,rfl,q _ L hn (fun e he=>e3 e (arJ (g.sub e he))) S.nd (fun r=>⟨fun m=>?_,fun m=>?_⟩) S.few⟩
 ·obtain⟨e,he,e5⟩:=aqR.mp m
  rw[←e5]
  exact mem e (arJ (g.sub e he))
 ·rw[←e2]at m
  obtain⟨p,hp,e5⟩:=aqR.mp m
  rw[←e5]
  exact g.all p (by rw[List.take_length];exact hp)
theorem abC(hu:X.A.units+65 < cLine)(hc:X.calm=true):CallR X (.builtin "sorted") (Om X.K X.w):=by
 intro pins s σ H vs us Q I r h
 unfold Om at h
 obtain⟨a,L,rfl,ha,hL,nd,few,q⟩:=h
 rw[Vals.ref1 r]
 obtain⟨hf,es,ep,t,⟨o,ho,hex,hd⟩,en,fit,ris,led⟩:abB X.w s.heap a L:=(I.hok a _ ha).1
 have len:=yj en
 have ev:∀K:List Ent,(∀p∈K,p∈L)->PySem.W.EachIs (fun v (r:Rw)=>(∃p∈L,v=Value.ref p.1/\r=p.2)/\∃as,Reads s.heap v (rD r) as) ((ents hf K).map (·.2)) (K.map Prod.snd):=by
  intro K
  induction K with
  |nil=>exact fun _=>.nil
  |cons p K ih=>
   intro hK
   have hp:=hK p aqK
   exact .cons ⟨⟨p,hp,rfl,rfl⟩,Dp.reads I (rD p.2) (.ref p.1) (.ref p.1) (hL p hp) rfl⟩ (ih fun x hx=>hK x (aqJ _ hx))
 refine aar (enc:=rD) (bs:=L.map Prod.snd) (I.ok.hd hc) ⟨o,ho,hex.1,hd⟩ fit (by unfold scanBound;omega) ris led (by rw[en];exact ev L fun p hp=>hp) (PySem.W.AllAlike.of UL) (PySem.W.Sortable.tuples fun b=>⟨_,_,rfl⟩) (fun b _=>by rw[(ac8 b).2];omega) fun s' p out c cs k g' o' hp hg pc eo=>?_
 have mp:=List.mergeSort_perm cs (PySem.W.dataLe false rD)
 have ndm:(cs.mergeSort (PySem.W.dataLe false rD)).Nodup:=(mp.trans pc).nodup_iff.mpr nd
 have srt:=List.pairwise_mergeSort (le:=PySem.W.dataLe false rD) (fun a b c k1 k2=>by rw[Kw,decide_eq_true_eq]at *;exact List.le_trans k1 k2) (fun a b=>by rw[Kw,Kw,arW,decide_eq_true_eq,decide_eq_true_eq];exact List.le_total _ _) cs
 generalize cs.mergeSort (PySem.W.dataLe false rD)=M at mp ndm srt eo
 obtain⟨ys,v1,v2⟩:=Vz out M eo
 have up:UW M:=by
  refine List.Pairwise.imp₂ (fun a b h1 h2=>?_) srt ndm
  rw[Kw,decide_eq_true_eq]at h1
  by_cases c:rk a < rk b
  ·exact c
  ·exact absurd (ac6 (List.le_antisymm h1 (List.not_lt.mp c))) h2
 have hfr:H p=none:=I.hok.fresh hp
 have hlen:ys.length<=sizeLine:=by
  rw[v2.1,mp.length_eq,pc.length_eq,aqO,sizeLine_eq]
  omega
 have J:Inv X pins σ (upd H p (.lst ys)) { s with heap:=s'.heap,gens:=s'.gens,drawn:=s'.drawn,toks:=s'.toks }:=
  I.call (ch:=[]) (Un.laid k hp hfr) (I.hok.laid k hp ⟨hlen,out,c,v1,hg⟩) (by rw[g'];exact I.bare) (fun _ z=>nomatch z)
 have es':s'={ s with heap:=s'.heap,gens:=s'.gens,drawn:=s'.drawn,toks:=s'.toks }:=by
  cases s'
  cases s
  cases o'
  rfl
 rw[es']
 refine⟨.ref p,_,J,rfl,q ys M p (v2.imp fun v r ⟨e,he,h1,h2⟩=>?_) up (fun r=>(mp.trans pc).mem_iff) hfr⟩
 subst h1 h2
 exact hL e he
end
end Ear
namespace Rf
open PySem PySem.Spec PyProof.Rows L2 Evl
def abW:Dat->Option Ear.Rw
 |.tuple [.int o,.tuple ds]=>(intsOf ds).map fun l=>(o,l)
 |_=>none
def CN:List Dat->Option (List Ear.Rw)
 |[]=>some []
 |d::ds=>(abW d).bind fun r=>(CN ds).bind fun rs=>some (r::rs)
theorem K8:∀{ds:List Dat} {l:List Int},intsOf ds=some l->ds=l.map PyData.int
 |[],l,h=>by cases h;rfl
 |.int i::ds,l,h=>by
  rw[intsOf,arx]at h
  obtain⟨r,h1,rfl⟩:=h
  rw[K8 h1]
  rfl
 |.none::_,_,h=>by cases h
 |.bool _::_,_,h=>by cases h
 |.str _::_,_,h=>by cases h
 |.list _::_,_,h=>by cases h
 |.tuple _::_,_,h=>by cases h
 |.dict _::_,_,h=>by cases h
theorem agS{d:Dat}{r:Ear.Rw}(h:abW d=some r):d=Ear.rD r:=by
 unfold abW at h
 split at h
 ·next o ds=>
  rw[arx]at h
  obtain⟨l,h1,rfl⟩:=h
  rw[K8 h1]
  rfl
 ·cases h
theorem NP:∀{ds:List Dat} {rs:List Ear.Rw},CN ds=some rs->ds=rs.map Ear.rD
 |[],_,h=>by cases h;rfl
 |d::ds,_,h=>by
  rw[CN]at h
  obtain⟨r,h1,h⟩:=aqD.mp h
  obtain⟨rs,h2,h⟩:=aqD.mp h
  cases h
  rw[agS h1,NP h2]
  rfl
def Rx(R:List Ear.Rw):List Ear.Rw:=R.mergeSort fun a b=>decide (Ear.rk a<=Ear.rk b)
def sortI(l:List Int):List Int:=l.mergeSort fun a b=>decide (a<=b)
def bU(R:List Ear.Rw):List Ear.Rw:=Rx R.eraseDups
def afX(l:List Int):List Int:=sortI l.eraseDups
theorem Yr:∀(n:Nat) (l:List Int),mY n (l.map PyData.int)=true:=fun n l=>by
 induction l with
 |nil=>rfl
 |cons i l ih=>simp[mY,okd,ih]
theorem ZJ(n:Nat)(r:Ear.Rw):okd (n+2) (Ear.rD r)=true:=by
 unfold Ear.rD Ear.dT
 simp[okd,mY,Yr]
theorem ahs(n:Nat)(R:List Ear.Rw):mY (n+2) (R.map Ear.rD)=true:=by
 induction R with
 |nil=>rfl
 |cons r R ih=>simp[mY,ZJ,ih]
def Iu:Dat->Out Dat
 |.list ds=>match intsOf ds with
  |some l=>.ok (.list ((sortI l).map PyData.int))
  |none=>match CN ds with
   |some R=>.ok (.list ((Rx R).map Ear.rD))
   |none=>.bad
 |_=>.bad
def Qv:Dat->Out Dat
 |.list ds=>match CN ds with
  |some R=>match decide (R.eraseDups.length<=76) with
   |true=>.ok (.list ((bU R).map Ear.rD))
   |false=>.bad
  |none=>.bad
 |_=>.bad
theorem Va{β:Type}{enc:β->Dat}{le:β->β->Bool}(h:∀a b,PySem.W.dataLe false id (enc a) (enc b)=le a b)(l:List β):(l.map enc).mergeSort (PySem.W.dataLe false id)=(l.mergeSort le).map enc:=by
 rw[List.map_mergeSort (r:=le) (s:=PySem.W.dataLe false id) (fun a _ b _=>(h a b).symm)]
theorem Ab{α:Type}[BEq α][LawfulBEq α]{l:List α}{x:α}:x∈l.eraseDups↔x∈l:=by
 induction hn:l.length using Nat.strongRecOn generalizing l with
 |_ n ih=>
  cases l with
  |nil=>simp
  |cons a r=>
   rw[arL]
   simp only[aqS]at hn
   have hl:(r.filter fun b=>!b==a).length<=r.length:=aqW _ _
   rw[aqV,ih _ (by omega) rfl,aq1,aqV]
   constructor
   ·rintro(h|h)
    ·exact .inl h
    ·exact .inr h.1
   ·rintro(h|h)
    ·exact .inl h
    ·by_cases e:x=a
     ·exact .inl e
     ·exact .inr ⟨h,by simpa using e⟩
theorem Rk{α:Type}[BEq α][LawfulBEq α]{l:List α}:l.eraseDups.Nodup:=by
 induction hn:l.length using Nat.strongRecOn generalizing l with
 |_ n ih=>
  cases l with
  |nil=>simp
  |cons a r=>
   rw[arL]
   simp only[aqS]at hn
   have hl:(r.filter fun b=>!b==a).length<=r.length:=aqW _ _
   refine arB.mpr ⟨fun h=>?_,ih _ (by omega) rfl⟩
   rw[Ab,aq1]at h
   simpa using h.2
theorem lN{R:List Ear.Rw}{r:Ear.Rw}:r∈bU R↔r∈R:=by
 unfold bU Rx
 rw[List.mem_mergeSort,Ab]
theorem YF(R:List Ear.Rw):Ear.UW (bU R):=by
 unfold Ear.UW bU Rx
 have srt:=List.pairwise_mergeSort (le:=fun a b:Ear.Rw=>decide (Ear.rk a<=Ear.rk b)) (fun a b c k1 k2=>by rw[decide_eq_true_eq]at *;exact List.le_trans k1 k2) (fun a b=>by rw[arW,decide_eq_true_eq,decide_eq_true_eq];exact List.le_total _ _) R.eraseDups
 have nd:(R.eraseDups.mergeSort fun a b=>decide (Ear.rk a<=Ear.rk b)).Nodup:=(List.mergeSort_perm _ _).nodup_iff.mpr Rk
 refine List.Pairwise.imp₂ (fun a b h1 h2=>?_) srt nd
 rw[decide_eq_true_eq]at h1
 by_cases c:Ear.rk a < Ear.rk b
 ·exact c
 ·exact absurd (Ear.ac6 (List.le_antisymm h1 (List.not_lt.mp c))) h2
section
variable{K:aqE}{g:Gh}{H:Hp}
theorem Nk{xs:List V}{ds:List Dat}(h:aH K g H xs ds):∀{ys:List V} {es:List Dat},Ear.eV (Ear.ae7 xs ds) ys es->aH K g H ys es
 |[],[],_=>.nil
 |[],_::_,z=>nomatch z.1
 |_::_,[],z=>nomatch z.1
 |y::ys,e::es,z=>by
  obtain⟨i,h1,h2⟩:=z.2 0 y e rfl rfl
  obtain⟨d,h3,h4⟩:=h.get' h1
  rw[h2]at h3
  cases h3
  exact .cons h4 (Nk h ⟨arv z.1,fun i v x a b=>z.2 (i+1) v x a b⟩)
end
section
variable{X:Cx}{aj:aO}{W:WX}{a:Expr}{fa:QF}{p p2 pos pos2:Pos}
theorem ago:Jf aj X.K W Iu (Ear.HX X.K):=fun σ g H x d Q k rx h=>by
 unfold Iu at h
 split at h
 ·next ds=>
  obtain⟨l,us,rfl,h1,h2⟩:=iY rx
  unfold Ear.HX
  split at h
  ·next ns hn=>
   have e:=K8 hn
   subst e
   refine⟨l,us,ns.map PyData.int,rfl,h1,h2.dp (n:=12) (Yr 12 ns),PySem.W.AllAlike.of (fun a b=>by simp[PySem.W.alike]),PySem.W.Sortable.others (fun b=>⟨(fun z=>nomatch z),fun xs z=>nomatch z⟩),fun d hd=>by
    obtain⟨i,_,rfl⟩:=aqR.mp hd
    simp[PyData.depth],fun ys q hy nq=>?_⟩
   have hs:=Va (enc:=PyData.int) (le:=fun a b:Int=>decide (a<=b)) (fun a b=>congrFun (congrFun (PySem.W.dataLe_int (fun k:Int=>k)) a) b) ns
   rw[hs]at hy
   exact h (.ref q) _ (Ex.new nq) (.lst (.inl ⟨.inl upd_same,k.fresh nq⟩) ((Nk h2 hy).ex (Ex.new nq) k))
  ·split at h
   ·next R hR=>
    have e:=NP hR
    subst e
    refine⟨l,us,R.map Ear.rD,rfl,h1,h2.dp (n:=12) (ahs 10 R),PySem.W.AllAlike.of Ear.UL,PySem.W.Sortable.tuples (fun b=>⟨_,_,rfl⟩),fun d hd=>by
     obtain⟨i,_,rfl⟩:=aqR.mp hd
     rw[(Ear.ac8 i).2]
     decide,fun ys q hy nq=>?_⟩
    ·have hs:=Va (enc:=Ear.rD) (le:=fun a b:Ear.Rw=>decide (Ear.rk a<=Ear.rk b)) (fun a b=>by rw[←Ear.Kw];rfl) R
     rw[hs]at hy
     exact h (.ref q) _ (Ex.new nq) (.lst (.inl ⟨.inl upd_same,k.fresh nq⟩) ((Nk h2 hy).ex (Ex.new nq) k))
   ·exact False.elim h
 ·exact False.elim h
theorem agE(hu:X.A.units+65 < cLine)(hg:Gl X "sorted")(hm:X.mg "sorted"=none)(ha:QW aj X W a fa)(hs:nst a=true):QE aj X W (.Call (.Name "sorted" p) [a] [] pos) (fH Iu fa):=
 agc (.inl rfl) (Ear.abK hu) ago hg hm ⟨by decide +kernel,by decide,by decide⟩ ha hs
theorem abn{K:aqE}{g:Gh}{H:Hp}:∀{vs:List V} {l:List Int},DpAll K H vs (l.map PyData.int)->aH K g H vs (l.map PyData.int)
 |_,[],.nil=>.nil
 |_,_::_,.cons (.int i) t=>.cons (.int i) (abn t)
theorem aeo{K:aqE}{g:Gh}{H:Hp}{v:V}{r:Ear.Rw}(h:Ear.xg K H v r):Rep K g H v (Ear.rD r):=by
 unfold Ear.xg Ear.rD at h
 cases h with
 |tup h1 t1=>
  cases t1 with
  |cons a1 t1=>
   cases a1
   cases t1 with
   |cons a2 t2=>
    cases t2
    cases a2 with
    |tup h2 t3=>exact .tup h1 (.cons (.int _) (.cons (.tup h2 (abn t3)) .nil))
theorem Ve{K:aqE}{g:Gh}{H:Hp}:∀{vs:List V} {R:List Ear.Rw},aH K g H vs (R.map Ear.rD)->Ear.eV (Ear.xg K H) vs R
 |_,[],.nil=>⟨rfl,fun i v x a b=>by simp at a⟩
 |_,r::R,.cons h t=>by
  have ih:=Ve t
  refine⟨congrArg (· + 1) ih.1,fun i v x a b=>?_⟩
  cases i with
  |zero=>
   simp at a b
   subst a b
   exact h.dp (n:=12) (ZJ 10 _)
  |succ i=>exact ih.2 i v x (by simpa using a) (by simpa using b)
theorem Vk{K:aqE}{g:Gh}{H:Hp}:∀{vs:List V} {R:List Ear.Rw},Ear.eV (Ear.xg K H) vs R->aH K g H vs (R.map Ear.rD)
 |[],[],_=>.nil
 |[],_::_,h=>nomatch h.1
 |_::_,[],h=>nomatch h.1
 |v::vs,r::R,h=>.cons (aeo (h.2 0 v r rfl rfl)) (Vk ⟨arv h.1,fun i v x a b=>h.2 (i+1) v x a b⟩)
theorem ahg(hu:X.A.units+65 < cLine)(hc:X.calm=true)(hg:Gl X "sorted")(hm:X.mg "sorted"=none)(hg2:Gl X "set")(hm2:X.mg "set"=none)(ha:QW aj X W a fa)(hs:nst a=true):QE aj X W (.Call (.Name "sorted" p) [.Call (.Name "set" p2) [a] [] pos2] [] pos) (fH Qv fa):=by
 have h0:=pa_cons ha pa_nil (cI hs [])
 have h1:PE X (.Call (.Name "set" p2) [a] [] pos2) _:=pe_callTy (Ear.aaj hu hc) hg2 hm2 (by decide +kernel) h0 (by decide) (by decide) (cI hs []) (by with_unfolding_all rfl)
 have h2:=pa_cons h1 pa_nil (cI rfl [])
 refine PE.weak (pe_callB (p:=p) (pos:=pos) (Ear.abC hu hc) hg hm (by decide +kernel) h2 (by decide) (by decide) (cI rfl []) (by with_unfolding_all rfl)) fun σ H Q ⟨g,ρ,M,I,h⟩=>?_
 refine tW.go I h.bnd fun d v H1 h1 e1 r1=>?_
 have I1:=I.ex e1
 unfold Qv at h1
 split at h1
 ·next ds=>
  split at h1
  ·next R hR=>
   split at h1
   ·next hd=>
    have e:=NP hR
    subst e
    obtain⟨l,us,rfl,s1,s2⟩:=iY r1
    unfold Ear.K6
    refine⟨l,us,R,R.eraseDups,rfl,s1,Ve s2,of_decide_eq_true hd,fun r hr=>Ab.mpr hr,fun q L nq hL nd mem few=>?_⟩
    have eq:Ex H1 (upd H1 q (Ear.Mg X.w q L)):=Ex.new nq
    unfold Ear.Om
    refine⟨q,L,rfl,upd_same,fun e he=>?_,nd,few,fun ys S z hy up ms nz=>?_⟩
    ·exact(Rep.ex eq I1.kd (aeo (g:=g) (hL e he))).dp (n:=12) (ZJ 10 _)
    ·have hS:S=bU R:=Ear.acQ up (YF R) fun r=>by rw[ms,mem,lN]
     subst hS
     have I2:=I1.ex eq
     exact h1 (.ref z) _ ((e1.trans eq).trans (Ex.new nz)) (.lst (.inl ⟨.inl upd_same,I2.kd.fresh nz⟩) ((Vk hy).ex (Ex.new nz) I2.kd))
   ·exact False.elim h1
  ·exact False.elim h1
 ·exact False.elim h1
def ahY(it:IF)(tg:fK)(vs:List Nat)(tt:QT)(te:QF):QF:=fun M ρ=>(Cp it tg vs tt te M ρ).bind fun ds=>match intsOf ds with
 |some l=>Out.when (decide (l.length<=4000)) (.ok (.list ((afX l).map PyData.int)))
 |none=>.bad
end
def yP(ρ:Env):Bool:=ρ.all fun o=>match o with
 |some (.mut _)=>false
 |_=>true
theorem Zg{ρ:Env}(h:yP ρ=true){i:Nat}{xs:List Dat}:ρ[i]?≠some (some (.mut xs)):=fun z=>by
 have:=aqZ.mp h _ (aqM z)
 cases this
theorem SInv.loc{K:aqE}{aj:aO}{σ:L2.St}{H:Hp}{g:Gh}{ρ:Env}{M:Mo}{D:Addr}{us us':List V}(I:SInv K aj σ H g ρ M)(n:yP ρ=true)(hD:H D=some (.lst us))(lo:g.Lo D):SInv K aj σ (upd H D (.lst us')) g ρ M where
 kd:=I.kd.upd trivial
 wok:=I.wok.loc I.kd hD lo
 len:=I.len
 dat:=fun i d h=>by
  obtain⟨v,h1,h2⟩:=I.dat i d h
  exact⟨v,h1,ahX I.kd hD lo h2⟩
 own:=fun i xs h=>absurd h (Zg n)
 sep:=fun i j xs ys l ne h1=>absurd h1 (Zg n)
def gJ(tg:fK)(tt:QT)(it1:IF)(tg1:fK)(vs1:List Nat)(tt1:QT)(te:QF)(M:Mo)(ρ:Env):List Dat->Out (List Dat)
 |[]=>.ok []
 |d::ds=>match tg d ρ with
  |none=>.bad
  |some ρ1=>(xK (tt M ρ1)).bind fun b=>if b=true then Out.when (yP ρ1) ((xK (it1 M ρ1)).bind fun es=>(dh tg1 tt1 te M (cC ρ1 vs1) es).bind fun r1=>(gJ tg tt it1 tg1 vs1 tt1 te M ρ ds).bind fun r=>.ok (r1++r)) else gJ tg tt it1 tg1 vs1 tt1 te M ρ ds
def abe(it:IF)(tg:fK)(vs:List Nat)(tt:QT)(it1:IF)(tg1:fK)(vs1:List Nat)(tt1:QT)(te:QF):IF:=fun M ρ=>(it M ρ).bind fun ds=>(gJ tg tt it1 tg1 vs1 tt1 te M (cC ρ vs) ds).bind fun r=>Out.when (decide (r.length<=50000)) (.ok r)
def Ce(it:IF)(tg:fK)(vs:List Nat)(tt:QT)(it1:IF)(tg1:fK)(vs1:List Nat)(tt1:QT)(te:QF):QF:=fun M ρ=>(abe it tg vs tt it1 tg1 vs1 tt1 te M ρ).bind fun r=>.ok (.list r)
theorem wI{tg tg1:fK}{tt tt1:QT}{te:QF}{it1:IF}{vs1:List Nat}{M:Mo}{ρ:Env}:∀{ds:List Dat} {x:dJ},gJ tg tt it1 tg1 vs1 tt1 te M ρ ds≠.exc x
 |[],_,h=>nomatch h
 |d::ds,x,h=>by
  rw[gJ]at h
  split at h
  ·cases h
  ·next ρ1 e=>
   cases h1:tt M ρ1 with
   |bad=>rw[h1]at h;cases h
   |exc y=>rw[h1]at h;cases h
   |ok b=>
    rw[h1]at h
    cases b with
    |false=>exact wI (ds:=ds) (x:=x) h
    |true=>
     cases hn:yP ρ1 with
     |false=>rw[hn]at h;cases h
     |true=>
      rw[hn]at h
      cases h2:it1 M ρ1 with
      |bad=>rw[h2]at h;cases h
      |exc y=>rw[h2]at h;cases h
      |ok es=>
       rw[h2]at h
       have h:((dh tg1 tt1 te M (cC ρ1 vs1) es).bind fun r1=>(gJ tg tt it1 tg1 vs1 tt1 te M ρ ds).bind fun r=>Out.ok (r1++r))=.exc x:=h
       cases h3:dh tg1 tt1 te M (cC ρ1 vs1) es with
       |bad=>rw[h3]at h;cases h
       |exc y=>exact absurd h3 qP
       |ok r1=>
        rw[h3]at h
        have h:((gJ tg tt it1 tg1 vs1 tt1 te M ρ ds).bind fun r=>Out.ok (r1++r))=.exc x:=h
        cases h4:gJ tg tt it1 tg1 vs1 tt1 te M ρ ds with
        |bad=>rw[h4]at h;cases h
        |exc y=>exact absurd h4 wI
        |ok r=>rw[h4]at h;cases h
section
variable{K:aqE}{aj:aO}{W:WX}
theorem ag4{it it1:IF}{tg tg1:fK}{js vs js1 vs1:List Nat}{tt tt1:QT}{te:QF}(hj:∀j∈js,j∈vs)(hj1:∀j∈js1,j∈vs1)(σ:L2.St)(H:Hp)(Q:VK)(h:tFr K aj W (abe it tg vs tt it1 tg1 vs1 tt1 te) σ H Q) :
  tLc2 (tI K aj W false it) (zJ K aj js tg) (j9 K aj WF tt) (tI K aj WF true it1) (zJ K aj js1 tg1) (j9 K aj WF tt1) (tQ K aj WF te) vs vs1 σ H Q:=by
 obtain⟨g,ρ,M,I,h⟩:=h
 refine⟨g,ρ,M,I,h.bnd.mono (fun ds hk J C H1 e1 w c _ D nD=>?_) fun _ z=>z⟩
 obtain⟨total,htot,hlen,hQ⟩:∃total,gJ tg tt it1 tg1 vs1 tt1 te M (cC ρ vs) ds=.ok total/\total.length<=50000/\∀l us H',H l=none->Ex H H'->H' l=some (.lst us)->aH K (g.add l) H' us total->Q (.ref l) H':=by
  cases hc:gJ tg tt it1 tg1 vs1 tt1 te M (cC ρ vs) ds with
  |bad=>rw[hc]at hk;exact False.elim hk
  |exc x=>exact absurd hc wI
  |ok total=>
   rw[hc]at hk
   obtain⟨hz,hk⟩:=Out.sat.pU hk
   exact⟨total,rfl,of_decide_eq_true hz,hk⟩
 have I1:=(I.ex e1).wipe vs
 have kD:∀{Ha:Hp} {us:List V},Ex H1 Ha->Ha D=some (.lst us)->SInv K aj (L2.wipe σ vs) Ha (g.add D) (cC ρ vs) M:=fun ea hu=>I1.add nD ea hu trivial
 have lD:(g.add D).Lo D:=.inr rfl
 let Pv:Nat->Hp->Prop:=fun i Ha=>Ex H1 Ha/\i<=ds.length/\∃us ys,Ha D=some (.lst us)/\aH K (g.add D) Ha us ys/\(gJ tg tt it1 tg1 vs1 tt1 te M (cC ρ vs) (ds.drop i)).sat (fun r=>total=ys++r) fun _=>False
 refine⟨fun i m Ha=>m=ds.length - i/\Pv i Ha,⟨ds.length,rfl,Ex.new nD,arn _,[],[],upd_same,.nil,?_⟩,?_⟩
 ·rw[arX,htot]
  rfl
 ·rintro i m Ha ⟨rfl,ea,hi,us,ys,hu,hU,hs⟩
  have Ia:=kD ea hu
  have Ca:=w.add g (g.add D) H1 Ha (I.kd.ex e1) c (Gh.Et nD ea) ea
  by_cases hlt:i < ds.length
  ·refine .inr ⟨w.go _ i Ha Ca hlt,Pv (i+1),fun H' p=>⟨ds.length - (i+1),by omega,rfl,p⟩,fun x H' y=>?_⟩
   have hd:ds[i]?=some ds[i]:=aqH hlt
   obtain⟨e2,rx⟩:=w.yld _ i Ha x H' _ Ia.kd Ca hd y
   have I2:=Ia.ex e2
   rw[arz hlt,gJ]at hs
   split at hs
   ·exact False.elim hs
   ·next ρ1 he=>
    refine⟨g.add D,_,M,_,ρ1,I2,rx,he,fun ws I3=>⟨zG js ws _ vs hj |>.trans (CQ σ vs),?_⟩⟩
    refine j9.go I3 (Br hs.bnd) fun b H3 hb e3=>?_
    have I4:=I3.ex e3
    have hu3:=e3 _ _ (e2 _ _ hu)
    have hU3:=(hU.ex e2 Ia.kd).ex e3 I2.kd
    cases b with
    |false=>
     have hb:(gJ tg tt it1 tg1 vs1 tt1 te M (cC ρ vs) (ds.drop (i+1))).sat (fun r=>total=ys++r) fun _=>False:=hb
     exact⟨(ea.trans e2).trans e3,hlt,us,ys,hu3,hU3,hb⟩
    |true=>
     have hb:(Out.when (yP ρ1) ((xK (it1 M ρ1)).bind fun es=>(dh tg1 tt1 te M (cC ρ1 vs1) es).bind fun r1=>(gJ tg tt it1 tg1 vs1 tt1 te M (cC ρ vs) (ds.drop (i+1))).bind fun r=>Out.ok (r1++r))).sat (fun r=>total=ys++r) fun _=>False:=hb
     obtain⟨nm,hb⟩:=hb.pU
     refine⟨g.add D,ρ1,M,I4,(Br (E':=qG K aj WF (g.add D) H3 _) hb.bnd).mono (fun es hk1 J1 C1 H4 e4 w1 c1 fm=>?_) fun _ z=>z⟩
     have fm:=fm rfl
     -- all that is added by this walk
     obtain⟨r1,r2,hr1,hr2,ht⟩:∃r1 r2,dh tg1 tt1 te M (cC ρ1 vs1) es=.ok r1/\gJ tg tt it1 tg1 vs1 tt1 te M (cC ρ vs) (ds.drop (i+1))=.ok r2/\total=ys++(r1++r2):=by
      cases q1:dh tg1 tt1 te M (cC ρ1 vs1) es with
      |bad=>rw[q1]at hk1;exact False.elim hk1
      |exc y=>exact absurd q1 qP
      |ok r1=>
       rw[q1]at hk1
       have hk1:((gJ tg tt it1 tg1 vs1 tt1 te M (cC ρ vs) (ds.drop (i+1))).bind fun r=>Out.ok (r1++r)).sat (fun r=>total=ys++r) fun _=>False:=hk1
       cases q2:gJ tg tt it1 tg1 vs1 tt1 te M (cC ρ vs) (ds.drop (i+1)) with
       |bad=>rw[q2]at hk1;exact False.elim hk1
       |exc y=>exact absurd q2 wI
       |ok r2=>
        rw[q2]at hk1
        exact⟨r1,r2,rfl,rfl,hk1⟩
     let P1:Nat->Hp->Prop:=fun j Hb=>Ex H1 Hb/\SInv K aj (sets (L2.wipe σ vs) js ws) Hb (g.add D) ρ1 M/\C1 (g.add D) Hb/\j<=es.length/\∃us' zs,Hb D=some (.lst us')/\aH K (g.add D) Hb us' (ys++zs)/\(dh tg1 tt1 te M (cC ρ1 vs1) (es.drop j)).sat (fun r=>r1=zs++r) fun _=>False
     refine⟨fun j m Hb=>m=es.length - j/\P1 j Hb,⟨es.length,rfl,((ea.trans e2).trans e3).trans e4,I4.ex e4,c1,arn _,us,[],e4 _ _ hu3,by rw[ars];exact hU3.ex e4 I4.kd,?_⟩,?_⟩
     ·rw[arX,hr1]
      rfl
     ·rintro j m Hb ⟨rfl,fb,Ib,Cb,hjl,us',zs,hub,hUb,hsb⟩
      by_cases hlj:j < es.length
      ·refine .inr ⟨w1.go _ j Hb Cb hlj,P1 (j+1),fun H' p=>⟨es.length - (j+1),by omega,rfl,p⟩,fun x H' y=>?_⟩
       have hdj:es[j]?=some es[j]:=aqH hlj
       obtain⟨f2,rx⟩:=w1.yld _ j Hb x H' _ Ib.kd Cb hdj y
       have J2:=(Ib.ex f2).wipe vs1
       rw[arz hlj,dh]at hsb
       split at hsb
       ·exact False.elim hsb
       ·next ρ2 he1=>
        refine⟨g.add D,_,M,_,ρ2,J2,rx,he1,fun ws1 J3=>⟨zG js1 ws1 _ vs1 hj1 |>.trans (CQ _ vs1),?_⟩⟩
        refine j9.go J3 (Br hsb.bnd) fun b H6 hb6 e6=>?_
        have f26:=f2.trans e6
        have hu6:=f26 _ _ hub
        have hU6:=hUb.ex f26 Ib.kd
        cases b with
        |false=>
         have hb6:(dh tg1 tt1 te M (cC ρ1 vs1) (es.drop (j+1))).sat (fun r=>r1=zs++r) fun _=>False:=hb6
         exact⟨fb.trans f26,Ib.ex f26,w1.ex _ _ _ Ib.kd Cb f26,hlj,us',zs,hu6,hU6,hb6⟩
        |true=>
         have hb6:((xK (te M ρ2)).bind fun y=>(dh tg1 tt1 te M (cC ρ1 vs1) (es.drop (j+1))).bind fun r=>Out.ok (y::r)).sat (fun r=>r1=zs++r) fun _=>False:=hb6
         refine tQ.go (J3.ex e6) (Br hb6.bnd) fun y v H7 hyv e7 ry=>?_
         have f27:=f26.trans e7
         have Ib7:=Ib.ex f27
         have hu7:=f27 _ _ hub
         have hU7:=hUb.ex f27 Ib.kd
         have hyv:=hyv.bnd
         have hr:∃r,dh tg1 tt1 te M (cC ρ1 vs1) (es.drop (j+1))=.ok r/\r1=zs++y::r:=by
          cases q1:dh tg1 tt1 te M (cC ρ1 vs1) (es.drop (j+1)) with
          |bad=>rw[q1]at hyv;exact False.elim hyv
          |exc y=>exact absurd q1 qP
          |ok r=>
           rw[q1]at hyv
           exact⟨r,rfl,hyv⟩
         obtain⟨r,hr,hr1'⟩:=hr
         have hll:us'.length < 50000:=by
          rw[hUb.length]
          rw[ht,hr1']at hlen
          simp at hlen ⊢
          omega
         refine⟨us',hu7,sz_lt (Nat.lt_trans hll (by decide)),Ex.mut (fb.trans f27) nD,Ib7.loc nm hu7 lD,fm true _ _ _ _ Ib7.kd (w1.ex _ _ _ Ib.kd Cb f27) (Gr.upd Ib7.kd hu7 (.inr lD)),hlj,us'++[v],zs++[y],upd_same,?_,?_⟩
         ·rw[←List.append_assoc]
          exact Xp Ib7.kd hu7 lD (hU7.append (.cons ry .nil))
         ·rw[hr]
          show r1=_
          rw[hr1']
          simp
      ·have e:j=es.length:=by omega
       refine .inl ⟨w1.stop _ j Hb Cb e,?_⟩
       rw[e,arE]at hsb
       have hsb:r1=zs++[]:=hsb
       rw[ars]at hsb
       subst hsb
       refine⟨fb,hlt,us',ys++r1,hub,hUb,?_⟩
       rw[hr2]
       show total=_
       rw[ht,List.append_assoc]
  ·have e:i=ds.length:=by omega
   refine .inl ⟨w.stop _ i Ha Ca e,?_⟩
   rw[e,arE]at hs
   have hs:total=ys++[]:=hs
   rw[ars]at hs
   subst hs
   exact hQ D us Ha (BW e1 D nD) (e1.trans ea) hu hU
theorem adD{it it1:IF}{tg tg1:fK}{js vs js1 vs1:List Nat}{tt tt1:QT}{te:QF}(hj:∀j∈js,j∈vs)(hj1:∀j∈js1,j∈vs1)(σ:L2.St)(H:Hp)(Q:VK)(h:tQ K aj W (Ce it tg vs tt it1 tg1 vs1 tt1 te) σ H Q) :
  tLc2 (tI K aj W false it) (zJ K aj js tg) (j9 K aj WF tt) (tI K aj WF true it1) (zJ K aj js1 tg1) (j9 K aj WF tt1) (tQ K aj WF te) vs vs1 σ H Q:=by
 obtain⟨g,ρ,M,I,h⟩:=h
 refine ag4 hj hj1 σ H Q ⟨g,ρ,M,I,h.bnd.mono (fun xs hk l us H' nl e hl r=>?_) fun _ z=>z⟩
 refine hk (.ref l) H' e (.lst (.inl ⟨.inl hl,fun z=>?_⟩) (aH.less (g:=g.add l) (g':=g) rfl (fun a z=>?_) r))
 ·exact I.kd.fresh nl z
 ·rcases z with z|z|z
  ·exact .inl z
  ·exact .inr (.inl z)
  ·exact .inr (.inr (.inl z))
end
section
variable{X:Cx}{aj:aO}{W:WX}{q:Bool}{elt tg iter tg1 iter1:Expr}{ifs ifs1:List Expr}{scope:Scope}{own:List (Str×Nat)}{it it1:IF}{tgf tgf1:fK}{js js1 vs1:List Nat}{tt tt1:QT}{te:QF}{pos cpos:Pos}
theorem aje(hc:X.calm=true)(hN:X.N.Nodup)(hi:QI aj X W false tg iter it)(ok:blkC X.N X.env.scope scope own=true)(hv:∀i∈vs1,i∈own.map (·.2))(hj:∀j∈js,j∈own.map (·.2))(hj1:∀j∈js1,j∈vs1)
  (hg:∀(s:Shared) (H:Hp) (C:Addr) (cl:List (Str×Addr)) (fp:List Addr),QG aj (X.blk s H scope (compEnvC scope cl C X.env) fp) tg js tgf)
  (ht:∀(s:Shared) (H:Hp) (C:Addr) (cl:List (Str×Addr)) (fp:List Addr),PTs (X.blk s H scope (compEnvC scope cl C X.env) fp) ifs (j9 X.K aj WF tt))
  (hi1:∀(s:Shared) (H:Hp) (C:Addr) (cl:List (Str×Addr)) (fp:List Addr),QI aj (X.blk s H scope (compEnvC scope cl C X.env) fp) WF true tg1 iter1 it1)
  (hg1:∀(s:Shared) (H:Hp) (C:Addr) (cl:List (Str×Addr)) (fp:List Addr),QG aj (X.blk s H scope (compEnvC scope cl C X.env) fp) tg1 js1 tgf1)
  (ht1:∀(s:Shared) (H:Hp) (C:Addr) (cl:List (Str×Addr)) (fp:List Addr),PTs (X.blk s H scope (compEnvC scope cl C X.env) fp) ifs1 (j9 X.K aj WF tt1))
  (he:∀(s:Shared) (H:Hp) (C:Addr) (cl:List (Str×Addr)) (fp:List Addr),QE aj (X.blk s H scope (compEnvC scope cl C X.env) fp) WF elt te) (hs:∀x,foldedSetIterable iter X.env x=pure x) (hs1:∀env x,foldedSetIterable iter1 env x=pure x) :
  QE aj X W (.ListComp elt [⟨tg,iter,ifs,0⟩,⟨tg1,iter1,ifs1,0⟩] scope pos) (Ce it tgf (own.map (·.2)) tt it1 tgf1 vs1 tt1 te):=
 PE.weak (pe_lc2 (g:=zJ X.K aj js tgf) (tt:=j9 X.K aj WF tt) (wi1:=tI X.K aj WF true it1) (g1:=zJ X.K aj js1 tgf1) (tt1:=j9 X.K aj WF tt1) (te:=tQ X.K aj WF te) hc hN hi (blkOk_by ok) hv (fun s H C cl fp=>hg s H C cl fp) ht (fun s H C cl fp=>hi1 s H C cl fp) (fun s H C cl fp=>hg1 s H C cl fp) ht1 (fun s H C cl fp=>he s H C cl fp) hs hs1) fun σ H Q h=>adD hj hj1 σ H Q h
theorem agy{j:Nat}{y:Str}{py:Pos}(hc:X.calm=true)(hN:X.N.Nodup)(hy:X.N[j]?=some y)(hyl:X.env.scope.names.lookup y=some .local)(hsw:swapsWith (.ListComp elt [⟨tg,iter,ifs,0⟩,⟨tg1,iter1,ifs1,0⟩] scope cpos) (some (.Name y py)) pos.line X.env=pure true)
  (hi:QI aj X W false tg iter it) (ok:blkC X.N X.env.scope scope own=true) (hv:∀i∈vs1,i∈own.map (·.2)) (hj:∀j∈js,j∈own.map (·.2)) (hj1:∀j∈js1,j∈vs1)
  (hg:∀(s:Shared) (H:Hp) (C:Addr) (cl:List (Str×Addr)) (fp:List Addr),QG aj (X.blk s H scope (compEnvC scope cl C X.env) fp) tg js tgf)
  (ht:∀(s:Shared) (H:Hp) (C:Addr) (cl:List (Str×Addr)) (fp:List Addr),PTs (X.blk s H scope (compEnvC scope cl C X.env) fp) ifs (j9 X.K aj WF tt))
  (hi1:∀(s:Shared) (H:Hp) (C:Addr) (cl:List (Str×Addr)) (fp:List Addr),QI aj (X.blk s H scope (compEnvC scope cl C X.env) fp) WF true tg1 iter1 it1)
  (hg1:∀(s:Shared) (H:Hp) (C:Addr) (cl:List (Str×Addr)) (fp:List Addr),QG aj (X.blk s H scope (compEnvC scope cl C X.env) fp) tg1 js1 tgf1)
  (ht1:∀(s:Shared) (H:Hp) (C:Addr) (cl:List (Str×Addr)) (fp:List Addr),PTs (X.blk s H scope (compEnvC scope cl C X.env) fp) ifs1 (j9 X.K aj WF tt1))
  (he:∀(s:Shared) (H:Hp) (C:Addr) (cl:List (Str×Addr)) (fp:List Addr),QE aj (X.blk s H scope (compEnvC scope cl C X.env) fp) WF elt te) (hs:∀x,foldedSetIterable iter X.env x=pure x) (hs1:∀env x,foldedSetIterable iter1 env x=pure x) :
  SE aj X W q (.Assign [.Name y py] (.ListComp elt [⟨tg,iter,ifs,0⟩,⟨tg1,iter1,ifs1,0⟩] scope cpos) pos) (aW (aF j) (gOf (Ce it tgf (own.map (·.2)) tt it1 tgf1 vs1 tt1 te))):=by
 refine PS.weak (ps_setLc2 (g:=zJ X.K aj js tgf) (tt:=j9 X.K aj WF tt) (wi1:=tI X.K aj WF true it1) (g1:=zJ X.K aj js1 tgf1) (tt1:=j9 X.K aj WF tt1) (te:=tQ X.K aj WF te) hc hN hy hyl hsw hi (blkOk_by ok) hv (fun s H C cl fp=>hg s H C cl fp) ht (fun s H C cl fp=>hi1 s H C cl fp) (fun s H C cl fp=>hg1 s H C cl fp) ht1 (fun s H C cl fp=>he s H C cl fp) hs hs1) fun D σ H ⟨g,ρ,M,I,z⟩=>?_
 refine adD hj hj1 σ H _ ⟨g,ρ,M,I,(Out.gK (cW (σ:=σ) z)).mono (fun d kk v H' e r=>?_) fun x kk H' c dd e r=>kk H' g c dd (Gr.ex e) (I.ex e) r⟩
 exact kk _ H' g (Gr.ex e) ((I.ex e).set r)
end
def T9(neg:Bool)(kvs:List (Str×Dat))(k:QF):QF:=fun M ρ=>(k M ρ).bind fun d=>match d with
 |.str x=>.ok (.bool (neg ^^ (kvs.lookup x).isSome))
 |_=>.bad
def aci(kvs:List (Str×Dat))(k:QF):QF:=fun M ρ=>(k M ρ).bind fun d=>match d with
 |.str x=>match kvs.lookup x with
  |some y=>.ok y
  |none=>.bad
 |_=>.bad
section
variable{X:Cx}{aj:aO}{W:WX}{a:Expr}{fa:QF}{x:Str}{p pos:Pos}{kvs:List (Str×Dat)}{k:Nat}
theorem acJ{neg:Bool}{d:Addr}(D:ab7 X.w X.K d kvs)(σ:L2.St)(H:Hp)(Q:VK)(h:tQ X.K aj W (T9 neg kvs fa) σ H Q) :
  tOp (fun x y H Q=>∃(z:Str) (r:Option Value),x=.str z/\y=.ref d/\PySem.W.nsIn X.K d z=some r/\Q (.bl (neg ^^ r.isSome)) H) (tW X.K aj W fa) (tC (.ref d)) σ H Q:=by
 obtain⟨g,ρ,M,I,h⟩:=h
 refine tW.go I h.bnd fun e v H1 h1 e1 r1=>?_
 split at h1
 ·next z=>
  cases jL r1
  obtain⟨es,n,_,_,hl⟩:=D
  have hz:=hl z
  cases hk:kvs.lookup z with
  |none=>
   rw[hk]at hz h1
   exact⟨z,none,rfl,rfl,hz,h1 _ H1 e1 (.bl _)⟩
  |some d'=>
   rw[hk]at hz h1
   obtain⟨v,u,h2,_⟩:=hz
   exact⟨z,some u,rfl,rfl,h2,h1 _ H1 e1 (.bl _)⟩
 ·exact False.elim h1
theorem opG{neg:Bool}{op:CmpOp}{d:Addr}(hn:(op=.In/\neg=false)∨(op=.NotIn/\neg=true))(D:ab7 X.w X.K d kvs):OpR X (compareOp op) (fun x y H Q=>∃(z:Str) (r:Option Value),x=.str z/\y=.ref d/\PySem.W.nsIn X.K d z=some r/\Q (.bl (neg ^^ r.isSome)) H):=by
 obtain⟨es,n,D,_⟩:=D
 rcases hn with⟨rfl,rfl⟩|⟨rfl,rfl⟩
 ·have:=op_in_kd (X:=X) D
  simpa only[Bool.false_xor] using this
 ·have:=op_notIn_kd (X:=X) D
  simpa only[Bool.true_xor] using this
theorem akM{neg:Bool}{op:CmpOp}(hn:(op=.In/\neg=false)∨(op=.NotIn/\neg=true))(g:bf X.prog X.w X.K X.mg X.base aj k x (.dic kvs))(hg:Gl X x)(hd:(x==("__debug__" : Str))=false)(ha:QW aj X W a fa):QE aj X W (.Compare a [op] [.Name x p] pos) (T9 neg kvs fa)/\rM aj X W (.Compare a [op] [.Name x p] pos) (bx (T9 neg kvs fa)):=by
 obtain⟨d,hm,D⟩:=g
 have hb:PE X (.Name x p) (tC (.ref d)):=pe_glob hg hm rfl hd
 refine⟨PE.weak (pe_cmpR (opG hn D) ha hb (by cases op <;> rfl)) fun σ H Q h=>acJ D σ H Q h,PT.weak (pt_cmpR (opG hn D) ha hb (by cases op <;> rfl)) fun σ H Q ⟨g,ρ,M,I,h⟩=>?_⟩
 refine acJ D σ H _ ⟨g,ρ,M,I,h.bnd.mono (fun d h1 v H' e' r'=>?_) fun _ z=>z⟩
 obtain⟨k,h2,h3⟩:=Dc r'.weak h1
 exact⟨k,h2,h3 H' e'⟩
theorem aix(g:bf X.prog X.w X.K X.mg X.base aj k x (.dic kvs))(hg:Gl X x)(hd:(x==("__debug__" : Str))=false)(ha:QW aj X W a fa)(hp:PlainIx a):QE aj X W (.Subscript (.Name x p) a pos) (aci kvs fa):=by
 obtain⟨d,hm,es,n,D,_,hl⟩:=g
 have hb:PE X (.Name x p) (tC (.ref d)):=pe_glob hg hm rfl hd
 refine PE.weak (pe_ix ix_kdict hb ha hp) fun σ H Q ⟨g,ρ,M,I,h⟩=>?_
 refine tW.go I h.bnd fun e v H1 h1 e1 r1=>?_
 split at h1
 ·next z=>
  cases jL r1
  have hz:=hl z
  split at h1
  ·next y hk=>
   rw[hk]at hz
   obtain⟨v,u,h2,h3,h4⟩:=hz
   exact⟨d,z,v,rfl,rfl,⟨es,n,u,D.at_,D.lit,h2,h3⟩,h1 v H1 e1 (h4 g H1)⟩
  ·exact False.elim h1
 ·exact False.elim h1
end
structure Hs where
 Ms:List (Str×List (Str×MV))
 ft:Ft
 xm:List (Str×List (Str×Bool))
 df:List (Str×Bool)
 xf:List (Str×List Str)
structure R5(P:Program)(w:World)(K:aqE)(mg:Str->Option Value)(base:Heap)(aj:aO)(k:Nat)(h:Hs):Prop where
 ms:∀m tb,h.Ms.lookup m=some tb->∀c v,tb.lookup c=some v->bV P w K mg base aj k c m v
 fk:Ky h.ft aj
 co:jy K aj
 hw:aj.w=w
 xm:∀y tab,h.xm.lookup y=some tab->(∃D,aj y=some D)/\abA K aj y fun x=>tab.lookup x
 xf:∀y fs,h.xf.lookup y=some fs->∃C,aj y=some C/\XfC K C/\∀f∈fs,PySem.W.findIn K (.ref C) f=some none
structure Tc where
 N:List Str
 sc:Scope
 G:List (Str×GV)
 B:List Str
 hs:Hs
 ml:List Str
 top:Bool
structure Amb(aj:aO)(c:Tc)(X:Cx)(W:WX)(k:Nat):Prop where
 hN:X.N=c.N
 hs:X.env.scope=c.sc
 calm:X.calm=true
 nd:X.N.Nodup
 tk:Takes X W
 rm:Room k X.A
 gl:∀x v,c.G.lookup x=some v->bf X.prog X.w X.K X.mg X.base aj k x v
 bl:∀x,x∈c.B->X.mg x=none
 fn:c.top=true->∀x,X.fn x=true
 hk:R5 X.prog X.w X.K X.mg X.base aj k c.hs
def gd{α:Type}(b:Bool)(o:Option α):Option α:=match b with
 |true=>o
 |false=>none
theorem aV{α:Type}{b:Bool}{o:Option α}{x:α}:gd b o=some x↔b=true/\o=some x:=by
 cases b
 ·exact⟨fun h=>(nomatch h),fun h=>(nomatch h.1)⟩
 ·exact⟨fun h=>⟨rfl,h⟩,fun h=>h.2⟩
def idx:List Str->Str->Option Nat
 |[],_=>none
 |y::ys,x=>match y==x with
  |true=>some 0
  |false=>(idx ys x).map (· + 1)
theorem Ez:∀{N:List Str} {x:Str} {i:Nat},idx N x=some i->N[i]?=some x
 |[],_,_,h=>nomatch h
 |y::ys,x,i,h=>by
  rw[idx]at h
  split at h
  ·next e=>
   cases h
   rw[List.getElem?_cons_zero,eq_of_beq e]
  ·rw[arx]at h
   obtain⟨j,h1,rfl⟩:=h
   rw[List.getElem?_cons_succ]
   exact Ez h1
def afC(sc:Scope)(x:Str):Bool:=match sc.names.lookup x with
 |some .local=>true
 |some .cell=>true
 |some .free=>true
 |_=>false
theorem ahy{sc:Scope}{x:Str}(h:afC sc x=true):Vis sc x:=by
 unfold afC at h
 unfold Vis
 split at h
 ·next e=>exact .inl e
 ·next e=>exact .inr (.inl e)
 ·next e=>exact .inr (.inr e)
 ·cases h
def CW(x:Str):Bool:=(x==("__debug__" : Str)) || (x==("__classdict__" : Str))
theorem oY{x:Str}(h:CW x=false):(x==("__debug__" : Str))=false/\(x==("__classdict__" : Str))=false:=by
 unfold CW at h
 rw[Bool.or_eq_false_iff]at h
 exact h
def DR(sc:Scope)(x:Str):Bool:=match sc.names.lookup x with
 |some .globalImplicit=>true
 |_=>false
def Lf(c:Tc)(x:Str):Option Nat:=gd (afC c.sc x&&!CW x) (idx c.N x)
def aiI(c:Tc)(x:Str):Bool:=match c.sc.names.lookup x with
 |some .local=>true
 |some .cell=>c.top
 |_=>false
def vm(c:Tc)(x:Str):Option Nat:=gd (aiI c x) (idx c.N x)
section
variable{aj:aO}{c:Tc}{X:Cx}{W:WX}{k:Nat}{x:Str}{i:Nat}
theorem pG(a:Amb aj c X W k)(h:DR c.sc x=true):Gl X x:=by
 unfold DR at h
 unfold Gl PySem.Env.kindOf
 rw[a.hs]
 split at h
 ·assumption
 ·cases h
theorem zq(a:Amb aj c X W k)(h:Lf c x=some i):X.N[i]?=some x/\Vis X.env.scope x/\(x==("__debug__" : Str))=false/\(x==("__classdict__" : Str))=false:=by
 obtain⟨h1,h2⟩:=aV.mp h
 rw[aqF]at h1
 obtain⟨d1,d2⟩:=oY (by simpa using h1.2)
 exact⟨by rw[a.hN];exact Ez h2,by rw[a.hs];exact ahy h1.1,d1,d2⟩
theorem mD(a:Amb aj c X W k)(h:vm c x=some i):X.N[i]?=some x/\L2.Loc X.env.scope x/\(X.fn x=true∨X.env.scope.names.lookup x=some .local):=by
 obtain⟨h1,h2⟩:=aV.mp h
 unfold aiI at h1
 refine⟨by rw[a.hN];exact Ez h2,?_⟩
 rw[a.hs]
 unfold L2.Loc
 split at h1
 ·next e=>exact⟨.inl e,.inr e⟩
 ·next e=>exact⟨.inr e,.inl (a.fn h1 x)⟩
 ·cases h1
def uI(c:Tc)(x y:Str):Bool:=(x==y)&&(DR c.sc x&&c.B.contains x)
theorem m7{y:Str}(a:Amb aj c X W k)(h:uI c x y=true):x=y/\Gl X x/\X.mg x=none:=by
 unfold uI at h
 rw[aqF,aqF]at h
 exact⟨eq_of_beq h.1,pG a h.2.1,a.bl x (by simpa using h.2.2)⟩
end
def yt:Expr->Bool
 |.Set _ _ _=>true
 |_=>false
theorem Cy{b:Expr}{op:CmpOp}(h:yt b=false):behindInMarks op b=false:=by
 cases b <;> first | rfl | cases h
theorem Vp{b c:Expr}{op op':CmpOp}(h:yt c=false):lastMarks [op,op'] [b,c]=false:=Cy h
theorem qR{e:Expr}{env:PySem.Env}(h:yt e=false):∀x,foldedSetIterable e env x=pure x:=fun x=>by
 cases e <;> first | rfl | cases h
def X3:Expr->Bool
 |.Slice _ _ _ _=>true
 |_=>false
def akl:Operator->Option (Dat->Dat->Out Dat)
 |.Add=>some dY
 |.Sub=>some lg
 |.Mult=>some wM
 |.FloorDiv=>some Af
 |.Mod=>some jP
 |.Pow=>some Oh
 |_=>none
def Oz:CmpOp->Option (Dat->Dat->Out Dat)
 |.Eq=>some bZ
 |.NotEq=>some Cm
 |.Lt=>some Nf
 |.LtE=>some rP
 |.Gt=>some YJ
 |.GtE=>some geD
 |.In=>some (inD false)
 |.NotIn=>some (inD true)
 |_=>none
theorem ahS{op:Operator}{o:Dat->Dat->Out Dat}(h:akl op=some o)(X:Cx)(aj:aO)(W:WX):∃r,OpR X (binaryOp op) r/\pQ aj X.K W o r:=by
 cases op <;> cases h
 ·exact⟨_,agq,aiz⟩
 ·exact⟨_,op_sub,akp⟩
 ·exact⟨_,op_mul,akC⟩
 ·exact⟨_,op_mod,aju⟩
 ·exact⟨_,op_pow,ajs⟩
 ·exact⟨_,op_fdiv,ajG⟩
theorem Bp{op:CmpOp}{o:Dat->Dat->Out Dat}(h:Oz op=some o){X:Cx}{k:Nat}(hr:Room k X.A)(aj:aO)(W:WX):∃r,OpR X (compareOp op) r/\pQ aj X.K W o r:=by
 have h65:X.A.units+65 < cLine:=by have:=hr.un;omega
 cases op <;> cases h
 ·exact⟨_,ah6 hr.units,alq⟩
 ·exact⟨_,ajY hr.units,alH⟩
 ·exact⟨_,ajO h65,alg⟩
 ·exact⟨_,op_le,aln⟩
 ·exact⟨_,op_gt,akP⟩
 ·exact⟨_,op_ge,alx⟩
 ·exact⟨_,akv h65,af3⟩
 ·exact⟨_,ac4 h65,af3⟩
def R9:Expr->Option Dat
 |.Constant .none _ _=>some .none
 |.Constant (.bool b) _ _=>some (.bool b)
 |_=>none
theorem abm{e:Expr}{d:Dat}{X:Cx}(h:R9 e=some d):∃v,scD d=some v/\(v=.non∨∃b,v=.bl b)/\PE X e (tC v):=by
 unfold R9 at h
 split at h
 ·cases h;exact⟨_,rfl,.inl rfl,pe_non⟩
 ·cases h;exact⟨_,rfl,.inr ⟨_,rfl⟩,pe_bl⟩
 ·cases h
def isN:CmpOp->Option Bool
 |.Is=>some false
 |.IsNot=>some true
 |_=>none
theorem aem{op:CmpOp}{neg:Bool}{v:V}{X:Cx}(h:isN op=some neg)(hv:v=.non∨∃b,v=.bl b):OpR X (compareOp op) (X6 neg v):=by
 cases op <;> cases h
 ·exact ajc hv
 ·exact acr hv
def b1D(x:Str):Option (Dat->Out Dat):=
 if x=="len" then some oN else if x=="abs" then some Ss else if x=="sum" then some YZ else if x=="max" then some maxD else if x=="all" then some O7 else if x=="any" then some Oq
 else if x=="tuple" then some mF else if x=="list" then some Ma else if x=="int" then some intD else
 none
def b2D(x:Str):Option (Dat->Dat->Out Dat):=if x=="max" then some u5 else if x=="min" then some Ij else none
theorem ake{x:Str}{o:Dat->Out Dat}{X:Cx}(hc:X.calm=true)(h:b1D x=some o)(aj:aO)(W:WX):∃(f:Value) (id:String) (r:List V->Hp->VK->Prop),(f=.builtin id∨f=.type id)/\CallR X f r/\Jf aj X.K W o r/\BV f x:=by
 unfold b1D at h
 split at h
 ·next e=>cases h;cases eq_of_beq e;exact⟨_,_,_,.inl rfl,aiu,aic,by decide +kernel,by decide,by decide⟩
 split at h
 ·next e=>cases h;cases eq_of_beq e;exact⟨_,_,_,.inl rfl,call_abs,aj8,by decide +kernel,by decide,by decide⟩
 split at h
 ·next e=>cases h;cases eq_of_beq e;exact⟨_,_,_,.inl rfl,cr_sum hc,aiA,by decide +kernel,by decide,by decide⟩
 split at h
 ·next e=>cases h;cases eq_of_beq e;exact⟨_,_,_,.inl rfl,cr_max hc,akc,by decide +kernel,by decide,by decide⟩
 split at h
 ·next e=>cases h;cases eq_of_beq e;exact⟨_,_,_,.inl rfl,cr_all hc,ajA,by decide +kernel,by decide,by decide⟩
 split at h
 ·next e=>cases h;cases eq_of_beq e;exact⟨_,_,_,.inl rfl,cr_any hc,ajj,by decide +kernel,by decide,by decide⟩
 split at h
 ·next e=>cases h;cases eq_of_beq e;exact⟨_,_,_,.inr rfl,call_tuple_of,ae0,by decide +kernel,by decide,by decide⟩
 split at h
 ·next e=>cases h;cases eq_of_beq e;exact⟨_,_,_,.inr rfl,call_list_of,agH,by decide +kernel,by decide,by decide⟩
 split at h
 ·next e=>cases h;cases eq_of_beq e;exact⟨_,_,_,.inr rfl,aiP,aio,by decide +kernel,by decide,by decide⟩
 ·cases h
theorem akq{x:Str}{o:Dat->Dat->Out Dat}{X:Cx}(hc:X.calm=true)(h:b2D x=some o)(aj:aO)(W:WX):∃(f:Value) (id:String) (r:List V->Hp->VK->Prop),(f=.builtin id∨f=.type id)/\CallR X f r/\Fn2 aj X.K W o r/\BV f x:=by
 unfold b2D at h
 split at h
 ·next e=>cases h;cases eq_of_beq e;exact⟨_,_,_,.inl rfl,call_max2 hc,agD,by decide +kernel,by decide,by decide⟩
 split at h
 ·next e=>cases h;cases eq_of_beq e;exact⟨_,_,_,.inl rfl,call_min2 hc,agx,by decide +kernel,by decide,by decide⟩
 ·cases h
def tyN(x:Str):Option M5:=if x=="int" then some .int else if x=="bool" then some .bool else if x=="str" then some .str else if x=="tuple" then some .tuple else if x=="list" then some .list else none
theorem aik{x:Str}{t:M5}(h:tyN x=some t):BV (.type t.name) x:=by
 unfold tyN at h
 split at h
 ·next e=>cases h;cases eq_of_beq e;exact⟨by decide +kernel,by decide,by decide⟩
 split at h
 ·next e=>cases h;cases eq_of_beq e;exact⟨by decide +kernel,by decide,by decide⟩
 split at h
 ·next e=>cases h;cases eq_of_beq e;exact⟨by decide +kernel,by decide,by decide⟩
 split at h
 ·next e=>cases h;cases eq_of_beq e;exact⟨by decide +kernel,by decide,by decide⟩
 split at h
 ·next e=>cases h;cases eq_of_beq e;exact⟨by decide +kernel,by decide,by decide⟩
 ·cases h
structure Tr where
 E:Tc->Expr->Option QF
 W:Tc->Expr->Option QF
 T:Tc->Expr->Option QT
 I:Tc->Bool->Expr->Expr->Option IF
structure Tr.Ok(t:Tr):Prop where
 oe:∀{aj:aO} {c:Tc} {X:Cx} {W:WX} {k:Nat},Amb aj c X W k->∀{e:Expr} {f:QF},t.E c e=some f->QE aj X W e f
 ow:∀{aj:aO} {c:Tc} {X:Cx} {W:WX} {k:Nat},Amb aj c X W k->∀{e:Expr} {f:QF},t.W c e=some f->QW aj X W e f
 ot:∀{aj:aO} {c:Tc} {X:Cx} {W:WX} {k:Nat},Amb aj c X W k->∀{e:Expr} {f:QT},t.T c e=some f->rM aj X W e f
 oi:∀{aj:aO} {c:Tc} {X:Cx} {W:WX} {k:Nat},Amb aj c X W k->∀{firm:Bool} {tg e:Expr} {f:IF},t.I c firm tg e=some f->QI aj X W firm tg e f
def Ep(t:Tr)(c:Tc):List Expr->Option QA
 |[]=>some au
 |a::es=>gd (nst a) ((t.E c a).bind fun fa=>(Ep t c es).bind fun fr=>some (ak fa fr))
section
variable{aj:aO}{c:Tc}{X:Cx}{W:WX}{k:Nat}{t:Tr}
theorem rW(o:t.Ok)(a:Amb aj c X W k):∀{es:List Expr} {f:QA},Ep t c es=some f->Dy aj X W es f/\es.all nst=true/\∀M ρ ds,f M ρ=.ok ds->ds.length=es.length
 |[],f,h=>by
  cases h
  exact⟨akr,rfl,fun M ρ ds e=>by cases e;rfl⟩
 |e::es,f,h=>by
  rw[Ep,aV]at h
  obtain⟨hs,h⟩:=h
  obtain⟨fa,h1,h⟩:=aqD.mp h
  obtain⟨fr,h2,h⟩:=aqD.mp h
  cases h
  obtain⟨i1,i2,i3⟩:=rW o a h2
  refine⟨agM (o.oe a h1) i1 (cI hs es),by simp[hs,i2],fun M ρ ds e=>?_⟩
  unfold ak at e
  cases hf:fa M ρ with
  |ok d=>
   rw[hf]at e
   cases hr:fr M ρ with
   |ok dr=>
    rw[hr]at e
    cases e
    simp[i3 M ρ dr hr]
   |exc y=>rw[hr]at e;cases e
   |bad=>rw[hr]at e;cases e
  |exc y=>rw[hf]at e;cases e
  |bad=>rw[hf]at e;cases e
end
def trO(t:Tr)(c:Tc):Option Expr->Option QO
 |none=>some pq
 |some a=>(t.W c a).bind fun fa=>some (kE fa)
theorem adK{aj:aO}{c:Tc}{X:Cx}{W:WX}{k:Nat}{t:Tr}(o:t.Ok)(a:Amb aj c X W k){e:Option Expr}{f:QO}(h:trO t c e=some f):QOe aj X W e f:=by
 cases e with
 |none=>cases h;exact aha
 |some e=>
  obtain⟨fa,h1,h⟩:=aqD.mp h
  cases h
  exact ag3 (o.ow a h1)
def Zy(c:Tc):List Expr->Option (List Nat)
 |[]=>some []
 |.Name x _::es=>(vm c x).bind fun i=>(Zy c es).bind fun js=>some (i::js)
 |_::_=>none
def UG(c:Tc):Expr->Option (List Nat×fK)
 |.Name x _=>(vm c x).bind fun i=>some ([i],aF i)
 |.Tuple es _ _=>(Zy c es).bind fun js=>some (js,bL js)
 |_=>none
theorem RQ{aj:aO}{c:Tc}{X:Cx}{W:WX}{k:Nat}(a:Amb aj c X W k):∀{es:List Expr} {js:List Nat},Zy c es=some js->Rb X es js
 |[],js,h=>by cases h;trivial
 |.Name x p::es,js,h=>by
  rw[Zy]at h
  obtain⟨i,h1,h⟩:=aqD.mp h
  obtain⟨r,h2,h⟩:=aqD.mp h
  cases h
  obtain⟨s1,s2,s3⟩:=mD a h1
  exact⟨s1,s2,s3,RQ a h2⟩
theorem uP{aj:aO}{c:Tc}{X:Cx}{W:WX}{k:Nat}(a:Amb aj c X W k){e:Expr}{js:List Nat}{f:fK}(h:UG c e=some (js,f)):QG aj X e js f:=by
 unfold UG at h
 split at h
 ·obtain⟨i,h1,h⟩:=aqD.mp h
  cases h
  obtain⟨s1,s2,s3⟩:=mD a h1
  exact Ui a.nd s1 s2 s3
 ·obtain⟨js',h1,h⟩:=aqD.mp h
  cases h
  exact adY a.calm a.nd (RQ a h1)
 ·cases h
def Tc.inn(c:Tc)(scope:Scope):Tc:={ c with sc:=relS scope c.sc,top:=false }
theorem Amb.inn{aj:aO}{c:Tc}{X:Cx}{W:WX}{k:Nat}(a:Amb aj c X W k)(scope:Scope)(s:Shared)(H:Hp)(C:Addr)(cl:List (Str×Addr))(fp:List Addr):Amb aj (c.inn scope) (X.blk s H scope (compEnvC scope cl C X.env) fp) WF k where
 hN:=a.hN
 hs:=by
  show relS scope X.env.scope=relS scope c.sc
  rw[a.hs]
 calm:=a.calm
 nd:=a.nd
 tk:=akt
 rm:=a.rm
 gl:=a.gl
 bl:=a.bl
 fn:=fun z=>nomatch z
 hk:=a.hk
def NQ:List Expr->List Nat->List (Str×Nat)
 |.Name x _::es,j::js=>(x,j)::NQ es js
 |_,_=>[]
def pB:Expr->List Nat->List (Str×Nat)
 |.Name x _,[j]=>[(x,j)]
 |.Tuple es _ _,js=>NQ es js
 |_,_=>[]
def Od(js vs:List Nat):Bool:=js.all fun j=>vs.contains j
theorem pC{js vs:List Nat}(h:Od js vs=true):∀j∈js,j∈vs:=fun j hj=>by
 have:=aqZ.mp h j hj
 simpa using this
def S8(t:Tr)(c:Tc):List Expr->Option QT
 |[]=>some jf
 |[a]=>t.T c a
 |_=>none
theorem PTs.weak{X:Cx}{e:List Expr}{t t':TT}(h:PTs X e t)(k:∀σ H Q,t' σ H Q->t σ H Q):PTs X e t':=⟨fun pins s σ H Q I q=>h.run pins s σ H Q I (k σ H Q q)⟩
theorem vU{aj:aO}{c:Tc}{X:Cx}{W:WX}{k:Nat}{t:Tr}(o:t.Ok)(a:Amb aj c X W k){ifs:List Expr}{f:QT}(h:S8 t c ifs=some f):PTs X ifs (j9 X.K aj W f):=by
 unfold S8 at h
 split at h
 ·cases h
  exact PTs.weak pts_nil fun σ H Q ⟨g,ρ,M,I,z⟩=>z H (Ex.refl H)
 ·exact pts_one (o.ot a h)
 ·cases h
def Xj(t:Tr)(c:Tc)(elt tg iter:Expr)(ifs:List Expr)(scope:Scope):Option QF:=
 (t.I c false tg iter).bind fun it=>(UG (c.inn scope) tg).bind fun jt=>(S8 t (c.inn scope) ifs).bind fun tt=>(t.E (c.inn scope) elt).bind fun te=>
  gd (blkC c.N c.sc scope (pB tg jt.1)&&(Od jt.1 ((pB tg jt.1).map (·.2))&&!yt iter)) (some (fu it jt.2 ((pB tg jt.1).map (·.2)) tt te))
theorem abb{aj:aO}{c:Tc}{X:Cx}{W:WX}{k:Nat}{t:Tr}(o:t.Ok)(a:Amb aj c X W k){elt tg iter:Expr}{ifs:List Expr}{scope:Scope}{pos:Pos}{f:QF}(h:Xj t c elt tg iter ifs scope=some f):QE aj X W (.ListComp elt [⟨tg,iter,ifs,0⟩] scope pos) f:=by
 unfold Xj at h
 obtain⟨it,h1,h⟩:=aqD.mp h
 obtain⟨⟨js,tf⟩,h2,h⟩:=aqD.mp h
 obtain⟨tt,h3,h⟩:=aqD.mp h
 obtain⟨te,h4,h⟩:=aqD.mp h
 obtain⟨hb,h⟩:=aV.mp h
 cases h
 simp only[aqF,aqY]at hb
 obtain⟨b1,b2,b3⟩:=hb
 exact ak3 a.calm a.nd (o.oi a h1) (by rw[a.hN,a.hs];exact b1) (pC b2) (fun s H C cl fp=>uP (a.inn scope s H C cl fp) h2) (fun s H C cl fp=>vU o (a.inn scope s H C cl fp) h3) (fun s H C cl fp=>o.oe (a.inn scope s H C cl fp) h4) (qR b3)
def XR(t:Tr)(c:Tc)(x:Str)(e:Expr)(es:List Expr):Option QF:=match c.G.lookup x with
 |some (.fq n m)=>(Ep t c (e::es)).bind fun as=>gd (DR c.sc x&&(!CW x&&decide ((e::es).length=n))) (some (aY m as))
 |some _=>none
 |none=>match es with
  |[]=>(b1D x).bind fun o=>(t.W c e).bind fun fa=>gd (uI c x x&&nst e) (some (fH o fa))
  |[.Name y p]=>match x=="isinstance" with
   |true=>(tyN y).bind fun ty=>(t.W c e).bind fun fa=>gd (uI c x x&&(uI c y y&&nst e)) (some (wD ty fa))
   |false=>(b2D x).bind fun o=>(t.W c e).bind fun fa=>(t.W c (.Name y p)).bind fun fb=>gd (uI c x x&&nst e) (some (aA o fa fb))
  |[e2]=>(b2D x).bind fun o=>(t.W c e).bind fun fa=>(t.W c e2).bind fun fb=>gd (uI c x x&&(nst e&&nst e2)) (some (aA o fa fb))
  |_=>none
theorem acO{aj:aO}{c:Tc}{X:Cx}{W:WX}{k:Nat}{x:Str}{o:Dat->Dat->Out Dat}{a b:Expr}{fa fb:QF}{p pos:Pos}(am:Amb aj c X W k)(h:b2D x=some o)(hg:uI c x x=true)(ha:QW aj X W a fa)(hb:QW aj X W b fb)(hs:nst a=true)(hs2:nst b=true):QE aj X W (.Call (.Name x p) [a,b] [] pos) (aA o fa fb):=by
 obtain⟨f,id,r,hf,hc,ho,hv⟩:=akq am.calm h aj W
 obtain⟨_,hg,hm⟩:=m7 am hg
 exact akZ hf hc ho hg hm hv ha hb hs hs2
theorem acM{aj:aO}{c:Tc}{X:Cx}{W:WX}{k:Nat}{t:Tr}(o:t.Ok)(a:Amb aj c X W k){x:Str}{e:Expr}{es:List Expr}{p pos:Pos}{f:QF}(h:XR t c x e es=some f):QE aj X W (.Call (.Name x p) (e::es) [] pos) f:=by
 unfold XR at h
 split at h
 ·next n m hl=>
  obtain⟨as,h1,h⟩:=aqD.mp h
  obtain⟨hb,h⟩:=aV.mp h
  cases h
  simp only[aqF,aqY,decide_eq_true_eq]at hb
  obtain⟨b1,b2,b3⟩:=hb
  obtain⟨fa,hm,hk,fd,ps,j,hj,hp,hB,F⟩:=a.gl x _ hl
  obtain⟨i1,i2,i3⟩:=rW o a h1
  exact agL a.tk F (a.rm.mono hj) (pG a b1) hm hk hB i1 (b3.trans hp.symm) (oY b2).1 i2 i3
 ·cases h
 ·split at h
  ·obtain⟨o1,h1,h⟩:=aqD.mp h
   obtain⟨fa,h2,h⟩:=aqD.mp h
   obtain⟨hb,h⟩:=aV.mp h
   cases h
   rw[aqF]at hb
   obtain⟨f,id,r,hf,hc,ho,hv⟩:=ake a.calm h1 aj W
   obtain⟨_,hg,hm⟩:=m7 a hb.1
   exact agc hf hc ho hg hm hv (o.ow a h2) hb.2
  ·split at h
   ·next ex=>
    obtain⟨ty,h1,h⟩:=aqD.mp h
    obtain⟨fa,h2,h⟩:=aqD.mp h
    obtain⟨hb,h⟩:=aV.mp h
    cases h
    simp only[aqF]at hb
    obtain⟨b1,b2,b3⟩:=hb
    obtain⟨_,hg,hm⟩:=m7 a b1
    obtain⟨_,hg2,hm2⟩:=m7 a b2
    cases eq_of_beq ex
    exact ajT hg hm ⟨by decide +kernel,by decide,by decide⟩ hg2 hm2 (aik h1) (o.ow a h2) b3
   ·obtain⟨o1,h1,h⟩:=aqD.mp h
    obtain⟨fa,h2,h⟩:=aqD.mp h
    obtain⟨fb,h3,h⟩:=aqD.mp h
    obtain⟨hb,h⟩:=aV.mp h
    cases h
    rw[aqF]at hb
    exact acO a h1 hb.1 (o.ow a h2) (o.ow a h3) hb.2 rfl
  ·obtain⟨o1,h1,h⟩:=aqD.mp h
   obtain⟨fa,h2,h⟩:=aqD.mp h
   obtain⟨fb,h3,h⟩:=aqD.mp h
   obtain⟨hb,h⟩:=aV.mp h
   cases h
   simp only[aqF]at hb
   exact acO a h1 hb.1 (o.ow a h2) (o.ow a h3) hb.2.1 hb.2.2
  ·cases h
def stE(t:Tr)(c:Tc):Expr->Option QF
 |.Name x _=>(match Lf c x with
  |some i=>some (aq i)
  |none=>match c.G.lookup x with
   |some (.con d)=>gd (DR c.sc x&&!CW x) (some (qC d))
   |_=>none)
 |.Constant (.int i) _ _=>some (qC (.int i))
 |.Constant (.str x) _ _=>some (qC (.str x))
 |.Constant (.bool x) _ _=>some (qC (.bool x))
 |.Constant .none _ _=>some (qC .none)
 |.BinOp a op b _=>(akl op).bind fun o=>(t.W c a).bind fun fa=>(t.W c b).bind fun fb=>some (aA o fa fb)
 |.UnaryOp .USub a _=>(t.W c a).bind fun fa=>some (fH R3 fa)
 |.UnaryOp .Not a _=>(t.W c a).bind fun fa=>some (Pk fa)
 |.BoolOp _ [a] _=>t.E c a
 |.BoolOp .And (a::b::r) p=>(t.E c a).bind fun fa=>(t.E c (.BoolOp .And (b::r) p)).bind fun fb=>some (wB fa fb)
 |.BoolOp .Or (a::b::r) p=>(t.E c a).bind fun fa=>(t.E c (.BoolOp .Or (b::r) p)).bind fun fb=>some (afH fa fb)
 |.Compare a [op] [b] _=>(match isN op with
  |some neg=>(R9 b).bind fun d=>(t.W c a).bind fun fa=>some (xP neg d fa)
  |none=>(Oz op).bind fun o=>(t.W c a).bind fun fa=>(t.W c b).bind fun fb=>gd (!yt b) (some (aA o fa fb)))
 |.Compare a [op,op'] [b,b2] _=>(Oz op).bind fun o=>(Oz op').bind fun o'=>(t.W c a).bind fun fa=>(t.W c b).bind fun fb=>(t.W c b2).bind fun fc=>gd (!yt b2) (some (VL (lE o o' fa fb fc)))
 |.IfExp d a b _=>(t.T c d).bind fun ta=>(t.E c a).bind fun fa=>(t.E c b).bind fun fb=>some (Qu ta fa fb)
 |.Tuple es _ _=>(Ep t c es).bind fun fr=>some (bA fr)
 |.List es _=>(Ep t c es).bind fun fr=>some (Ae fr)
 |.Subscript a b _=>(match b with
  |.Slice lo hi none _=>(t.W c a).bind fun fa=>(trO t c lo).bind fun fl=>(trO t c hi).bind fun fh=>some (Cg fa fl fh)
  |b=>gd (!X3 b) ((t.W c a).bind fun fa=>(t.W c b).bind fun fb=>some (aA aU fa fb)))
 |.ListComp elt [⟨tg,iter,ifs,0⟩] scope _=>Xj t c elt tg iter ifs scope
 |.Call (.Name x _) (e::es) [] _=>XR t c x e es
 |_=>none
def stW(t:Tr)(c:Tc):Expr->Option QF
 |.Name x p=>(match Lf c x with
  |some i=>some (ao i)
  |none=>t.E c (.Name x p))
 |e=>t.E c e
def valT:Expr->Bool
 |.UnaryOp .Not _ _=>false
 |.BoolOp _ _ _=>false
 |.IfExp _ _ _ _=>false
 |.Compare _ _ _ _=>false
 |_=>true
theorem abf{e:Expr}{env:PySem.Env}(h:valT e=true):∀whole,isTrue e env whole=(do let v ←whole;standAt e.pos;holding [v] (truthy v)):=fun whole=>by
 cases e with
 | UnaryOp o a p=>cases o <;> first | (with_unfolding_all rfl) | cases h
 |BoolOp _ _ _=>cases h
 |IfExp _ _ _ _=>cases h
 |Compare _ _ _ _=>cases h
 |_=>with_unfolding_all rfl
def stT(t:Tr)(c:Tc):Expr->Option QT
 |.UnaryOp .Not a _=>(t.T c a).bind fun ta=>some (jJ ta)
 |.BoolOp _ [a] _=>t.T c a
 |.BoolOp .And (a::b::r) p=>(t.T c a).bind fun ta=>(t.T c (.BoolOp .And (b::r) p)).bind fun tb=>some (kY ta tb)
 |.BoolOp .Or (a::b::r) p=>(t.T c a).bind fun ta=>(t.T c (.BoolOp .Or (b::r) p)).bind fun tb=>some (JC ta tb)
 |.Compare a [op] [b] _=>(match isN op with
  |some neg=>(R9 b).bind fun d=>(t.W c a).bind fun fa=>some (bx (xP neg d fa))
  |none=>(Oz op).bind fun o=>(t.W c a).bind fun fa=>(t.W c b).bind fun fb=>gd (!yt b) (some (bx (aA o fa fb))))
 |.Compare a [op,op'] [b,b2] _=>(Oz op).bind fun o=>(Oz op').bind fun o'=>(t.W c a).bind fun fa=>(t.W c b).bind fun fb=>(t.W c b2).bind fun fc=>gd (!yt b2) (some (lE o o' fa fb fc))
 |e=>gd (valT e) ((t.W c e).bind fun fa=>some (jd fa))
def trF(t:Tr)(c:Tc)(firm:Bool)(e:Expr):Option QF:=match firm with
 |true=>t.E c e
 |false=>t.W c e
def isTup:Expr->Bool
 |.Tuple _ _ _=>true
 |_=>false
def stI(t:Tr)(c:Tc)(firm:Bool)(tg:Expr):Expr->Option IF
 |.Call (.Name x p) [a] [] pos=>(match uI c x "range" with
  |true=>(t.W c a).bind fun fa=>gd (nst a) (some (yg fa))
  |false=>match uI c x "enumerate" with
   |true=>(trF t c firm a).bind fun fa=>gd (nst a&&isTup tg) (some (yM 0 fa))
   |false=>(trF t c firm (.Call (.Name x p) [a] [] pos)).bind fun fa=>some (dw fa))
 |.Call (.Name x p) [a,b] [] pos=>(match uI c x "range" with
  |true=>(t.W c a).bind fun fa=>(t.W c b).bind fun fb=>gd (nst a&&nst b) (some (Bm fa fb))
  |false=>match uI c x "zip" with
   |true=>(trF t c firm a).bind fun fa=>(trF t c firm b).bind fun fb=>gd (nst a&&(nst b&&isTup tg)) (some (JK fa fb))
   |false=>(trF t c firm (.Call (.Name x p) [a,b] [] pos)).bind fun fa=>some (dw fa))
 |.Call (.Name x p) [a] [⟨some kw,.Constant (.int i) j kp,kp2⟩] pos=>gd (uI c x "enumerate"&&(kw=="start"&&(decide (-(2 ^ 63)<=i/\i < 2 ^ 63)&&(nst a&&isTup tg)))) ((trF t c firm a).bind fun fa=>some (yM i fa))
 |e=>(trF t c firm e).bind fun fa=>some (dw fa)
theorem Xx{b:Expr}(h:(!X3 b)=true):PlainIx b:=fun v i=>by
 cases b <;> first | rfl | cases h
section
variable{aj:aO}{c:Tc}{X:Cx}{W:WX}{k:Nat}{t:Tr}
theorem ajk(o:t.Ok)(a:Amb aj c X W k){e:Expr}{f:QF}(h:stE t c e=some f):QE aj X W e f:=by
 unfold stE at h
 split at h
 ·split at h
  ·next i hi=>
   cases h
   obtain⟨s1,s2,s3,s4⟩:=zq a hi
   exact akK s1 s2 s3 s4
  ·split at h
   ·next d hl=>
    obtain⟨hb,h⟩:=aV.mp h
    cases h
    simp only[aqF,aqY]at hb
    obtain⟨v,u,h1,h2,h3⟩:=a.gl _ _ hl
    exact PE.weak (pe_glob (pG a hb.1) h1 h2 (oY hb.2).1) fun σ H Q ⟨g,ρ,M,I,z⟩=>z v H (Ex.refl H) (h3 g H)
   ·cases h
 ·cases h;exact akd
 ·cases h;exact ah2
 ·cases h;exact akU
 ·cases h;exact aip
 ·obtain⟨op,h1,h⟩:=aqD.mp h
  obtain⟨fa,h2,h⟩:=aqD.mp h
  obtain⟨fb,h3,h⟩:=aqD.mp h
  cases h
  obtain⟨r,r1,r2⟩:=ahS h1 X aj W
  exact ajz r1 r2 (o.ow a h2) (o.ow a h3)
 ·obtain⟨fa,h2,h⟩:=aqD.mp h
  cases h
  exact aiL (o.ow a h2)
 ·obtain⟨fa,h2,h⟩:=aqD.mp h
  cases h
  exact agQ (o.ow a h2)
 ·exact pe_one (o.oe a h)
 ·obtain⟨fa,h2,h⟩:=aqD.mp h
  obtain⟨fb,h3,h⟩:=aqD.mp h
  cases h
  exact agw (o.oe a h2) (o.oe a h3)
 ·obtain⟨fa,h2,h⟩:=aqD.mp h
  obtain⟨fb,h3,h⟩:=aqD.mp h
  cases h
  exact ajI (o.oe a h2) (o.oe a h3)
 ·split at h
  ·next neg hn=>
   obtain⟨d,h1,h⟩:=aqD.mp h
   obtain⟨fa,h2,h⟩:=aqD.mp h
   cases h
   obtain⟨v,v1,v2,v3⟩:=abm (X:=X) h1
   refine ak0 v1 (aem hn v2) (o.ow a h2) v3 (Cy ?_)
   unfold R9 at h1
   split at h1 <;> first | rfl | cases h1
  ·obtain⟨op,h1,h⟩:=aqD.mp h
   obtain⟨fa,h2,h⟩:=aqD.mp h
   obtain⟨fb,h3,h⟩:=aqD.mp h
   obtain⟨hb,h⟩:=aV.mp h
   cases h
   obtain⟨r,r1,r2⟩:=Bp h1 a.rm aj W
   exact ahI r1 r2 (o.ow a h2) (o.ow a h3) (Cy (by simpa using hb))
 ·obtain⟨op,h1,h⟩:=aqD.mp h
  obtain⟨op',h1',h⟩:=aqD.mp h
  obtain⟨fa,h2,h⟩:=aqD.mp h
  obtain⟨fb,h3,h⟩:=aqD.mp h
  obtain⟨fc,h4,h⟩:=aqD.mp h
  obtain⟨hb,h⟩:=aV.mp h
  cases h
  obtain⟨r,r1,r2⟩:=Bp h1 a.rm aj W
  obtain⟨r',r1',r2'⟩:=Bp h1' a.rm aj W
  exact aeZ r1 r1' r2 r2' (o.ow a h2) (o.ow a h3) (o.ow a h4) (Vp (by simpa using hb))
 ·obtain⟨ta,h1,h⟩:=aqD.mp h
  obtain⟨fa,h2,h⟩:=aqD.mp h
  obtain⟨fb,h3,h⟩:=aqD.mp h
  cases h
  exact afq (o.ot a h1) (o.oe a h2) (o.oe a h3)
 ·obtain⟨fr,h1,h⟩:=aqD.mp h
  cases h
  exact ajh (rW o a h1).1
 ·obtain⟨fr,h1,h⟩:=aqD.mp h
  cases h
  exact aiw (rW o a h1).1
 ·split at h
  ·obtain⟨fa,h1,h⟩:=aqD.mp h
   obtain⟨fl,h2,h⟩:=aqD.mp h
   obtain⟨fh,h3,h⟩:=aqD.mp h
   cases h
   exact ak9 (o.ow a h1) (adK o a h2) (adK o a h3)
  ·obtain⟨hb,h⟩:=aV.mp h
   obtain⟨fa,h1,h⟩:=aqD.mp h
   obtain⟨fb,h2,h⟩:=aqD.mp h
   cases h
   exact akQ (o.ow a h1) (o.ow a h2) (Xx hb)
 ·exact abb o a h
 ·exact acM o a h
 ·cases h
theorem aiU(o:t.Ok)(a:Amb aj c X W k){e:Expr}{f:QF}(h:stW t c e=some f):QW aj X W e f:=by
 unfold stW at h
 split at h
 ·split at h
  ·next i hi=>
   cases h
   obtain⟨s1,s2,s3,s4⟩:=zq a hi
   exact ajC s1 s2 s3 s4
  ·exact(o.oe a h).w
 ·exact(o.oe a h).w
theorem aiN{a b:Expr}{rest:List Expr}{ta tb:QT}{pos:Pos}(ha:rM aj X W a ta)(hb:rM aj X W (.BoolOp .And (b::rest) pos) tb):rM aj X W (.BoolOp .And (a::b::rest) pos) (kY ta tb):=by
 have hb':QWt aj X W (.BoolOp .And (b::rest) pos) tb:=⟨fun wh pins s σ H Q I q=>hb.run pins s σ H Q I q⟩
 exact PW.pt (akE ha hb')
theorem alB{a b:Expr}{rest:List Expr}{ta tb:QT}{pos:Pos}(ha:rM aj X W a ta)(hb:rM aj X W (.BoolOp .Or (b::rest) pos) tb):rM aj X W (.BoolOp .Or (a::b::rest) pos) (JC ta tb):=by
 have hb':QWt aj X W (.BoolOp .Or (b::rest) pos) tb:=⟨fun wh pins s σ H Q I q=>hb.run pins s σ H Q I q⟩
 exact PW.pt (alG ha hb')
theorem ais(o:t.Ok)(a:Amb aj c X W k){e:Expr}{f:QT}(h:stT t c e=some f):rM aj X W e f:=by
 unfold stT at h
 split at h
 ·obtain⟨ta,h1,h⟩:=aqD.mp h
  cases h
  exact akJ (o.ot a h1)
 ·next op _ _=>
  cases op
  ·exact PW.pt (pw_and1 (o.ot a h))
  ·exact PW.pt (pw_or1 (o.ot a h))
 ·obtain⟨ta,h1,h⟩:=aqD.mp h
  obtain⟨tb,h2,h⟩:=aqD.mp h
  cases h
  exact aiN (o.ot a h1) (o.ot a h2)
 ·obtain⟨ta,h1,h⟩:=aqD.mp h
  obtain⟨tb,h2,h⟩:=aqD.mp h
  cases h
  exact alB (o.ot a h1) (o.ot a h2)
 ·split at h
  ·next neg hn=>
   obtain⟨d,h1,h⟩:=aqD.mp h
   obtain⟨fa,h2,h⟩:=aqD.mp h
   cases h
   obtain⟨v,v1,v2,v3⟩:=abm (X:=X) h1
   refine alX v1 (aem hn v2) (o.ow a h2) v3 (Cy ?_)
   unfold R9 at h1
   split at h1 <;> first | rfl | cases h1
  ·obtain⟨op,h1,h⟩:=aqD.mp h
   obtain⟨fa,h2,h⟩:=aqD.mp h
   obtain⟨fb,h3,h⟩:=aqD.mp h
   obtain⟨hb,h⟩:=aV.mp h
   cases h
   obtain⟨r,r1,r2⟩:=Bp h1 a.rm aj W
   exact ai2 r1 r2 (o.ow a h2) (o.ow a h3) (Cy (by simpa using hb))
 ·obtain⟨op,h1,h⟩:=aqD.mp h
  obtain⟨op',h1',h⟩:=aqD.mp h
  obtain⟨fa,h2,h⟩:=aqD.mp h
  obtain⟨fb,h3,h⟩:=aqD.mp h
  obtain⟨fc,h4,h⟩:=aqD.mp h
  obtain⟨hb,h⟩:=aV.mp h
  cases h
  obtain⟨r,r1,r2⟩:=Bp h1 a.rm aj W
  obtain⟨r',r1',r2'⟩:=Bp h1' a.rm aj W
  exact ae5 r1 r1' r2 r2' (o.ow a h2) (o.ow a h3) (o.ow a h4) (Vp (by simpa using hb))
 ·obtain⟨hv,h⟩:=aV.mp h
  obtain⟨fa,h1,h⟩:=aqD.mp h
  cases h
  exact ajN (o.ow a h1) (abf hv)
theorem Cu(o:t.Ok)(a:Amb aj c X W k){firm:Bool}{e:Expr}{f:QF}(h:trF t c firm e=some f):QF' aj X W firm e f:=by
 cases firm
 ·exact o.ow a h
 ·exact o.oe a h
theorem Oj{e:Expr}(h:isTup e=true):∃es j p,e=.Tuple es j p:=by
 cases e <;> first | exact⟨_,_,_,rfl⟩ | cases h
theorem ajX(o:t.Ok)(a:Amb aj c X W k){firm:Bool}{tg e:Expr}{f:IF}(h:stI t c firm tg e=some f):QI aj X W firm tg e f:=by
 unfold stI at h
 split at h
 ·split at h
  ·next hb=>
   obtain⟨fa,h1,h⟩:=aqD.mp h
   obtain⟨hs,h⟩:=aV.mp h
   cases h
   obtain⟨rfl,hg,hm⟩:=m7 a hb
   exact adX hg hm (o.ow a h1) hs
  ·split at h
   ·next hb=>
    obtain⟨fa,h1,h⟩:=aqD.mp h
    obtain⟨hs,h⟩:=aV.mp h
    cases h
    obtain⟨rfl,hg,hm⟩:=m7 a hb
    rw[aqF]at hs
    obtain⟨es,j,p,rfl⟩:=Oj hs.2
    exact ahx hg hm (Cu o a h1) hs.1
   ·obtain⟨fa,h1,h⟩:=aqD.mp h
    cases h
    exact YK (Cu o a h1)
 ·split at h
  ·next hb=>
   obtain⟨fa,h1,h⟩:=aqD.mp h
   obtain⟨fb,h2,h⟩:=aqD.mp h
   obtain⟨hs,h⟩:=aV.mp h
   cases h
   obtain⟨rfl,hg,hm⟩:=m7 a hb
   rw[aqF]at hs
   exact adC hg hm (o.ow a h1) (o.ow a h2) hs.1 hs.2
  ·split at h
   ·next hb=>
    obtain⟨fa,h1,h⟩:=aqD.mp h
    obtain⟨fb,h2,h⟩:=aqD.mp h
    obtain⟨hs,h⟩:=aV.mp h
    cases h
    obtain⟨rfl,hg,hm⟩:=m7 a hb
    simp only[aqF]at hs
    obtain⟨es,j,p,rfl⟩:=Oj hs.2.2
    exact ajL hg hm (Cu o a h1) (Cu o a h2) hs.1 hs.2.1
   ·obtain⟨fa,h1,h⟩:=aqD.mp h
    cases h
    exact YK (Cu o a h1)
 ·obtain⟨hs,h⟩:=aV.mp h
  obtain⟨fa,h1,h⟩:=aqD.mp h
  cases h
  simp only[aqF,decide_eq_true_eq]at hs
  obtain⟨hb,hk,hi,hn,ht⟩:=hs
  obtain⟨rfl,hg,hm⟩:=m7 a hb
  cases eq_of_beq hk
  obtain⟨es,j,p,rfl⟩:=Oj ht
  exact afE hi.1 hi.2 hg hm (Cu o a h1) hn
 ·obtain⟨fa,h1,h⟩:=aqD.mp h
  cases h
  exact YK (Cu o a h1)
end
def MV.n:MV->Nat
 |.q n _=>n
 |.g n _=>n
def MV.qt:MV->Bool
 |.q _ _=>true
 |.g _ _=>false
def tbN(tb:List (Str×MV))(n:Nat):Bool:=tb.all fun p=>p.2.n==n
def tbQ(tb:List (Str×MV)):Bool:=tb.all fun p=>p.2.qt
theorem pW{α:Type}{c:Str}{v:α}:∀{tb:List (Str×α)},tb.lookup c=some v->(c,v)∈tb
 |[],h=>nomatch h
 |(y,u)::r,h=>by
  rw[aq6]at h
  split at h
  ·next e=>
   cases h
   rw[eq_of_beq e]
   exact aqK
  ·exact aqJ _ (pW h)
section
variable{aj:aO}{c:Tc}{X:Cx}{W:WX}{k:Nat}{t:Tr}
theorem WR(a:Amb aj c X W k){m:Str}{n:Nat}{tb:List (Str×MV)}(h:c.hs.Ms.lookup m=some tb)(hn:tbN tb n=true):GX X aj k m n tb:=fun y v hv=>by
 refine⟨a.hk.ms m tb h y v hv,?_⟩
 have:=aqZ.mp hn _ (pW hv)
 cases v <;> exact eq_of_beq this
def Xw(t:Tr)(c:Tc)(o:Expr)(m:Str)(es:List Expr)(apos pos:Pos):Option QF:=
 (c.hs.Ms.lookup m).bind fun tb=>(t.W c o).bind fun fo=>(Ep t c es).bind fun as=>
  gd (tbQ tb&&(tbN tb (es.length+1)&&(baseOk o&&(decide (es.length < 30)&&(apos.endLine==pos.line))))) (some (aP tb fo as))
theorem adW(o:t.Ok)(a:Amb aj c X W k){b:Expr}{m:Str}{es:List Expr}{apos pos:Pos}{f:QF}(h:Xw t c b m es apos pos=some f):QE aj X W (.Call (.Attribute b m apos) es [] pos) f:=by
 unfold Xw at h
 obtain⟨tb,h1,h⟩:=aqD.mp h
 obtain⟨fo,h2,h⟩:=aqD.mp h
 obtain⟨as,h3,h⟩:=aqD.mp h
 obtain⟨hb,h⟩:=aV.mp h
 cases h
 simp only[aqF,decide_eq_true_eq]at hb
 obtain⟨_,b2,b3,b4,b5⟩:=hb
 obtain⟨i1,i2,i3⟩:=rW o a h3
 cases es with
 |nil=>
  cases h3
  exact aeV a.tk a.rm (WR a h1 b2) (o.ow a h2) b3 b5
 |cons e es=>exact aho a.tk a.rm (WR a h1 b2) (o.ow a h2) i1 i3 b3 i2 b5 b4
def inN:CmpOp->Option Bool
 |.In=>some false
 |.NotIn=>some true
 |_=>none
theorem adz{op:CmpOp}{neg:Bool}(hr:Room k X.A)(h:inN op=some neg):OpR X (compareOp op) (rInD X neg):=by
 have h65:X.A.units+64 < cLine:=by have:=hr.un;omega
 cases op <;> cases h
 ·exact op_inD h65
 ·exact op_notInD h65
def aco(t:Tr)(c:Tc)(e:Expr)(op:CmpOp)(o:Expr)(f:Str):Option QF:=
 (inN op).bind fun neg=>(c.hs.df.lookup f).bind fun _=>(t.E c e).bind fun fe=>(t.W c o).bind fun fo=>gd (baseOk o) (some (Oe neg f fe fo))
theorem ai8{o e:Expr}{f:Str}{p1 pos:Pos}{fo fk:QF}{neg:Bool}{op:CmpOp}(co:jy X.K aj)(hw:aj.w=X.w)(hr:OpR X (compareOp op) (rInD X neg))(hk:QE aj X W e fk)(ho:QW aj X W o fo)(hb:baseOk o=true):rM aj X W (.Compare e [op] [.Attribute o f p1] pos) (bx (Oe neg f fk fo)):=
 PT.weak (pt_cmpR hr hk (pe_fld ho (lX hb)) (by cases op <;> rfl)) fun σ H Q ⟨g,ρ,M,I,h⟩=>by
  refine agh co hw σ H _ ⟨g,ρ,M,I,h.bnd.mono (fun d h1 v H' e' r'=>?_) fun _ z=>z⟩
  obtain⟨k,h2,h3⟩:=Dc r'.weak h1
  exact⟨k,h2,h3 H' e'⟩
theorem aa4(o:t.Ok)(a:Amb aj c X W k){e b:Expr}{op:CmpOp}{m:Str}{p1 pos:Pos}{f:QF}(h:aco t c e op b m=some f):QE aj X W (.Compare e [op] [.Attribute b m p1] pos) f/\rM aj X W (.Compare e [op] [.Attribute b m p1] pos) (bx f):=by
 unfold aco at h
 obtain⟨neg,h1,h⟩:=aqD.mp h
 obtain⟨_,_,h⟩:=aqD.mp h
 obtain⟨fe,h2,h⟩:=aqD.mp h
 obtain⟨fo,h3,h⟩:=aqD.mp h
 obtain⟨hb,h⟩:=aV.mp h
 cases h
 exact⟨akA a.hk.co a.hk.hw (adz a.rm h1) (o.oe a h2) (o.ow a h3) hb,ai8 a.hk.co a.hk.hw (adz a.rm h1) (o.oe a h2) (o.ow a h3) hb⟩
def WW(t:Tr)(c:Tc)(e:Expr)(op:CmpOp)(x:Str):Option QF:=
 (inN op).bind fun neg=>match c.G.lookup x with
  |some (.dic kvs)=>(t.W c e).bind fun fe=>gd (DR c.sc x&&!CW x) (some (T9 neg kvs fe))
  |_=>none
theorem Yd(o:t.Ok)(a:Amb aj c X W k){e:Expr}{op:CmpOp}{x:Str}{p1 pos:Pos}{f:QF}(h:WW t c e op x=some f):QE aj X W (.Compare e [op] [.Name x p1] pos) f/\rM aj X W (.Compare e [op] [.Name x p1] pos) (bx f):=by
 unfold WW at h
 obtain⟨neg,h1,h⟩:=aqD.mp h
 split at h
 ·next kvs hl=>
  obtain⟨fe,h2,h⟩:=aqD.mp h
  obtain⟨hb,h⟩:=aV.mp h
  cases h
  simp only[aqF,aqY]at hb
  refine akM ?_ (a.gl x _ hl) (pG a hb.1) (oY hb.2).1 (o.ow a h2)
  cases op <;> cases h1
  ·exact .inl ⟨rfl,rfl⟩
  ·exact .inr ⟨rfl,rfl⟩
 ·cases h
def X4(t:Tr)(c:Tc):Expr->Option QF
 |.Call (.Name y _) [b] [] _=>(match uI c y "set" with
  |true=>(t.W c b).bind fun fb=>gd (nst b) (some (fH Qv fb))
  |false=>(t.W c (.Call (.Name y ⟨0,0,0,0⟩) [b] [] ⟨0,0,0,0⟩)).bind fun _=>none)
 |e=>(t.W c e).bind fun fe=>gd (nst e) (some (fH Iu fe))
theorem ai3(a:Amb aj c X W k):X.A.units+65 < cLine:=by have:=a.rm.un;omega
theorem acG(o:t.Ok)(a:Amb aj c X W k)(hg:Gl X "sorted")(hm:X.mg "sorted"=none){e:Expr}{p pos:Pos}{f:QF}(h:X4 t c e=some f):QE aj X W (.Call (.Name "sorted" p) [e] [] pos) f:=by
 unfold X4 at h
 split at h
 ·split at h
  ·next hb=>
   obtain⟨fb,h1,h⟩:=aqD.mp h
   obtain⟨hn,h⟩:=aV.mp h
   cases h
   obtain⟨rfl,hg2,hm2⟩:=m7 a hb
   exact ahg (ai3 a) a.calm hg hm hg2 hm2 (o.ow a h1) hn
  ·obtain⟨_,_,h⟩:=aqD.mp h
   cases h
 ·obtain⟨fe,h1,h⟩:=aqD.mp h
  obtain⟨hn,h⟩:=aV.mp h
  cases h
  exact agE (ai3 a) hg hm (o.ow a h1) hn
def Qm(t:Tr)(c:Tc)(elt tg iter:Expr)(ifs:List Expr)(tg1 iter1:Expr)(ifs1:List Expr)(scope:Scope):Option QF:=
 (t.I c false tg iter).bind fun it=>(UG (c.inn scope) tg).bind fun jt=>(S8 t (c.inn scope) ifs).bind fun tt=>(t.I (c.inn scope) true tg1 iter1).bind fun it1=>(UG (c.inn scope) tg1).bind fun jt1=>(S8 t (c.inn scope) ifs1).bind fun tt1=>(t.E (c.inn scope) elt).bind fun te=>
  gd (blkC c.N c.sc scope (pB tg jt.1++pB tg1 jt1.1)&&(Od ((pB tg1 jt1.1).map (·.2)) ((pB tg jt.1++pB tg1 jt1.1).map (·.2))&&(Od jt.1 ((pB tg jt.1++pB tg1 jt1.1).map (·.2))&&(Od jt1.1 ((pB tg1 jt1.1).map (·.2))&&(!yt iter&&!yt iter1)))))
   (some (Ce it jt.2 ((pB tg jt.1++pB tg1 jt1.1).map (·.2)) tt it1 jt1.2 ((pB tg1 jt1.1).map (·.2)) tt1 te))
theorem afL(o:t.Ok)(a:Amb aj c X W k){elt tg iter tg1 iter1:Expr}{ifs ifs1:List Expr}{scope:Scope}{pos:Pos}{f:QF}(h:Qm t c elt tg iter ifs tg1 iter1 ifs1 scope=some f):QE aj X W (.ListComp elt [⟨tg,iter,ifs,0⟩,⟨tg1,iter1,ifs1,0⟩] scope pos) f:=by
 unfold Qm at h
 obtain⟨it,h1,h⟩:=aqD.mp h
 obtain⟨⟨js,tf⟩,h2,h⟩:=aqD.mp h
 obtain⟨tt,h3,h⟩:=aqD.mp h
 obtain⟨it1,h4,h⟩:=aqD.mp h
 obtain⟨⟨js1,tf1⟩,h5,h⟩:=aqD.mp h
 obtain⟨tt1,h6,h⟩:=aqD.mp h
 obtain⟨te,h7,h⟩:=aqD.mp h
 obtain⟨hb,h⟩:=aV.mp h
 cases h
 simp only[aqF,aqY]at hb
 obtain⟨b1,b2,b3,b4,b5,b6⟩:=hb
 exact aje a.calm a.nd (o.oi a h1) (by rw[a.hN,a.hs];exact b1) (pC b2) (pC b3) (pC b4) (fun s H C cl fp=>uP (a.inn _ s H C cl fp) h2) (fun s H C cl fp=>vU o (a.inn _ s H C cl fp) h3) (fun s H C cl fp=>o.oi (a.inn _ s H C cl fp) h4) (fun s H C cl fp=>uP (a.inn _ s H C cl fp) h5) (fun s H C cl fp=>vU o (a.inn _ s H C cl fp) h6) (fun s H C cl fp=>o.oe (a.inn _ s H C cl fp) h7) (qR b5) (fun env=>qR b6)
def xE(t:Tr)(c:Tc):Expr->Option QF
 |.Attribute o f _=>gd (baseOk o) ((t.W c o).bind fun fo=>some (gq f fo))
 |.Call (.Attribute o m apos) es [] pos=>Xw t c o m es apos pos
 |.Compare e [op] [.Attribute o f _] _=>aco t c e op o f
 |.Compare e [op] [.Name x _] _=>WW t c e op x
 |.Subscript (.Name x _) e _=>(match c.G.lookup x with
  |some (.dic kvs)=>(t.W c e).bind fun fe=>gd (DR c.sc x&&(!CW x&&!X3 e)) (some (aci kvs fe))
  |_=>none)
 |.ListComp elt [⟨tg,iter,ifs,0⟩,⟨tg1,iter1,ifs1,0⟩] scope _=>Qm t c elt tg iter ifs tg1 iter1 ifs1 scope
 |.Call (.Name x _) [e] [] _=>(match uI c x "sorted" with
  |true=>X4 t c e
  |false=>match uI c x "list",e with
   |true,.Attribute o f _=>(c.hs.df.lookup f).bind fun _=>(t.W c o).bind fun fo=>gd (baseOk o) (some (BX f fo))
   |_,_=>none)
 |_=>none
theorem ak7(o:t.Ok)(a:Amb aj c X W k){e:Expr}{f:QF}(h:xE t c e=some f):QE aj X W e f:=by
 unfold xE at h
 split at h
 ·obtain⟨hb,h⟩:=aV.mp h
  obtain⟨fo,h1,h⟩:=aqD.mp h
  cases h
  exact ah5 a.hk.co (o.ow a h1) hb
 ·exact adW o a h
 ·exact(aa4 o a h).1
 ·exact(Yd o a h).1
 ·split at h
  ·next kvs hl=>
   obtain⟨fe,h1,h⟩:=aqD.mp h
   obtain⟨hb,h⟩:=aV.mp h
   cases h
   simp only[aqF]at hb
   exact aix (a.gl _ _ hl) (pG a hb.1) (oY (by simpa using hb.2.1)).1 (o.ow a h1) (Xx hb.2.2)
  ·cases h
 ·exact afL o a h
 ·split at h
  ·next hb=>
   obtain⟨rfl,hg,hm⟩:=m7 a hb
   exact acG o a hg hm h
  ·split at h
   ·next hb=>
    obtain⟨_,_,h⟩:=aqD.mp h
    obtain⟨fo,h1,h⟩:=aqD.mp h
    obtain⟨hb2,h⟩:=aV.mp h
    cases h
    obtain⟨rfl,hg,hm⟩:=m7 a hb
    exact aeF a.hk.co a.hk.hw a.calm hg hm (o.ow a h1) hb2
   ·cases h
 ·cases h
def xW(t:Tr)(c:Tc):Expr->Option QF
 |.Attribute o f _=>gd (baseOk o) ((t.W c o).bind fun fo=>some (bJ f fo))
 |_=>none
theorem alW(o:t.Ok)(a:Amb aj c X W k){e:Expr}{f:QF}(h:xW t c e=some f):QW aj X W e f:=by
 unfold xW at h
 split at h
 ·obtain⟨hb,h⟩:=aV.mp h
  obtain⟨fo,h1,h⟩:=aqD.mp h
  cases h
  exact aia a.hk.co (o.ow a h1) hb
 ·cases h
def xT(t:Tr)(c:Tc):Expr->Option QT
 |.Compare e [op] [.Attribute o f _] _=>(aco t c e op o f).bind fun g=>some (bx g)
 |.Compare e [op] [.Name x _] _=>(WW t c e op x).bind fun g=>some (bx g)
 |_=>none
theorem akY(o:t.Ok)(a:Amb aj c X W k){e:Expr}{f:QT}(h:xT t c e=some f):rM aj X W e f:=by
 unfold xT at h
 split at h
 ·obtain⟨g,h1,h⟩:=aqD.mp h
  cases h
  exact(aa4 o a h1).2
 ·obtain⟨g,h1,h⟩:=aqD.mp h
  cases h
  exact(Yd o a h1).2
 ·cases h
def xI(t:Tr)(c:Tc)(firm:Bool):Expr->Option IF
 |.Attribute o f _=>(match firm with
  |true=>none
  |false=>(c.hs.df.lookup f).bind fun _=>gd (baseOk o) ((t.W c o).bind fun fo=>some (BK f fo)))
 |_=>none
theorem alQ(o:t.Ok)(a:Amb aj c X W k){firm:Bool}{tg e:Expr}{f:IF}(h:xI t c firm e=some f):QI aj X W firm tg e f:=by
 unfold xI at h
 split at h
 ·split at h
  ·cases h
  ·obtain⟨_,_,h⟩:=aqD.mp h
   obtain⟨hb,h⟩:=aV.mp h
   obtain⟨fo,h1,h⟩:=aqD.mp h
   cases h
   exact ae3 a.hk.co a.hk.hw (o.ow a h1) hb
 ·cases h
def els{α:Type}(a b:Option α):Option α:=match a with
 |some x=>some x
 |none=>b
theorem vJ{α:Type}{a b:Option α}{x:α}(h:els a b=some x):a=some x∨b=some x:=by
 cases a with
 |none=>exact .inr h
 |some y=>exact .inl h
def xtE(t:Tr)(c:Tc)(e:Expr):Option QF:=els (xE t c e) (stE t c e)
def xtW(t:Tr)(c:Tc)(e:Expr):Option QF:=els (xW t c e) (stW t c e)
def xtT(t:Tr)(c:Tc)(e:Expr):Option QT:=els (xT t c e) (stT t c e)
def xtI(t:Tr)(c:Tc)(firm:Bool)(tg e:Expr):Option IF:=els (xI t c firm e) (stI t c firm tg e)
end
structure qU(aj:aO)(c:Tc)(X:Cx)(W:WX)(k:Nat):Prop extends Amb aj c X W k where
 ps:PassesOwn (model X.prog X.w) X.A X.env X.xe
 st:X.stack=X.env::X.outer
 fr:X.env.frame=some X.env.locals
 kf:X.env.scope.kind=.function
structure Ts where
 G:Tc->Expr->Option GF
 H:Tc->Expr->Option GT
 S:Tc->Stmt->Option SF
 B:Tc->List Stmt->Option SF
structure Ts.Ok(s:Ts)(q:Bool):Prop where
 og:∀{aj:aO} {c:Tc} {X:Cx} {W:WX} {k:Nat},qU aj c X W k->∀{e:Expr} {f:GF},s.G c e=some f->GE aj X W q e f
 oh:∀{aj:aO} {c:Tc} {X:Cx} {W:WX} {k:Nat},qU aj c X W k->∀{e:Expr} {f:GT},s.H c e=some f->Eo aj X W q e f
 os:∀{aj:aO} {c:Tc} {X:Cx} {W:WX} {k:Nat},qU aj c X W k->∀{e:Stmt} {f:SF},s.S c e=some f->SE aj X W q e f
 ob:∀{aj:aO} {c:Tc} {X:Cx} {W:WX} {k:Nat},qU aj c X W k->∀{e:List Stmt} {f:SF},s.B c e=some f->Dm aj X W q e f
def Ek:Expr->Bool
 |.ListComp _ _ _ _=>true
 |.SetComp _ _ _ _=>true
 |.DictComp _ _ _ _ _=>true
 |_=>false
theorem Fo{e:Expr}{tg:Option Expr}{l:Nat}{env:PySem.Env}(h:Ek e=false):swapsWith e tg l env=pure false:=by
 cases e <;> first | rfl | cases h
def acd:Expr->Bool
 |.Tuple _ _ _=>true
 |_=>false
def swB(sc:Scope)(v:Expr)(scope:Scope)(x:Str)(p:Pos):Bool:=(match sc.names.lookup x with
 |some .local=>true
 |_=>false)&&(p.line==v.pos.line&&!(scope.names.any fun(n,k)=>n==x&&(k==.local || k==.cell)))
theorem Qh{X:Cx}{elt:Expr}{gens:List Comprehension}{scope:Scope}{pos p:Pos}{x:Str}{l:Nat}(hk:X.env.scope.kind=.function)(h:swB X.env.scope (.ListComp elt gens scope pos) scope x p=true):X.env.scope.names.lookup x=some .local/\swapsWith (.ListComp elt gens scope pos) (some (.Name x p)) l X.env=pure true:=by
 unfold swB at h
 simp only[aqF]at h
 obtain⟨h1,h2,h3⟩:=h
 have e1:X.env.scope.names.lookup x=some .local:=by
  split at h1
  ·assumption
  ·cases h1
 refine⟨e1,?_⟩
 have eb:X.env.blockKind=.function:=by
  unfold PySem.Env.blockKind
  rw[hk]
  rfl
 unfold swapsWith
 show(pure (X.env.blockKind==.function&&X.env.kindOf x==some .local&&p.line==(Expr.ListComp elt gens scope pos).pos.line&&!(scope.names.any fun(n,k)=>n==x&&(k==.local || k==.cell))):Sem Bool)=pure true
 rw[eb,h2,h3]
 unfold PySem.Env.kindOf
 rw[e1]
 rfl
theorem ac7{X:Cx}{elt:Expr}{gens:List Comprehension}{scope:Scope}{pos p:Pos}{x:Str}{l:Nat}(h:(p.line==(Expr.ListComp elt gens scope pos).pos.line)=false):swapsWith (.ListComp elt gens scope pos) (some (.Name x p)) l X.env=pure false:=by
 unfold swapsWith
 show(pure (X.env.blockKind==.function&&X.env.kindOf x==some .local&&p.line==(Expr.ListComp elt gens scope pos).pos.line&&!(scope.names.any fun(n,k)=>n==x&&(k==.local || k==.cell))):Sem Bool)=pure false
 rw[h,Bool.and_false,Bool.false_and]
def trN(t:Tr)(c:Tc):Expr->Option IF
 |.List es _=>(Ep t c es).bind fun fr=>some (Rz fr)
 |_=>none
theorem aer{aj:aO}{c:Tc}{X:Cx}{W:WX}{k:Nat}{t:Tr}(o:t.Ok)(a:Amb aj c X W k){e:Expr}{f:IF}(h:trN t c e=some f):FE aj X W e f/\Ek e=false:=by
 unfold trN at h
 split at h
 ·obtain⟨fr,h1,h⟩:=aqD.mp h
  cases h
  exact⟨ajq (rW o a h1).1,rfl⟩
 ·cases h
def R6(c:Tc):List Str->Option (List Nat)
 |[]=>some []
 |x::xs=>(match c.sc.names.lookup x with
  |some .local=>(idx c.N x).bind fun i=>(R6 c xs).bind fun js=>some (i::js)
  |_=>none)
theorem aaQ{aj:aO}{c:Tc}{X:Cx}{W:WX}{k:Nat}(a:Amb aj c X W k):∀{xs:List Str} {js:List Nat},R6 c xs=some js->xs.length=js.length/\∀(n:Nat) (x:Str) (j:Nat),xs[n]?=some x->js[n]?=some j->X.N[j]?=some x/\X.env.scope.names.lookup x=some .local
 |[],js,h=>by
  cases h
  exact⟨rfl,fun n x j e=>by simp at e⟩
 |x::xs,js,h=>by
  rw[R6]at h
  split at h
  ·next e=>
   obtain⟨i,h1,h⟩:=aqD.mp h
   obtain⟨r,h2,h⟩:=aqD.mp h
   cases h
   obtain⟨i1,i2⟩:=aaQ a h2
   refine⟨by simp[i1],fun n y j e1 e2=>?_⟩
   cases n with
   |zero=>
    simp at e1 e2
    subst e1 e2
    exact⟨by rw[a.hN];exact Ez h1,by rw[a.hs];exact e⟩
   |succ n=>exact i2 n y j (by simpa using e1) (by simpa using e2)
  ·cases h
def nmE:Expr->Option (Str×Nat)
 |.Name x p=>some (x,p.line)
 |_=>none
def Uj:List Expr->Option (List (Str×Nat))
 |[]=>some []
 |e::es=>(nmE e).bind fun x=>(Uj es).bind fun r=>some (x::r)
def pnB(c:Tc)(ts vs:List Expr):Option (List Nat):=
 (Uj ts).bind fun nls=>gd ((ts.length==2 || ts.length==3)&&(vs.length==ts.length&&(vs.all nst&&(nls.all (fun p=>p.2==((ts.head?.map (·.pos.line)).getD 0))&&((nls.map (·.1)).eraseDups.length==nls.length&&(!(vs.all (foldedForSure 8))&&!(vs.all (constantsAlone 8)))))))) (R6 c (nls.map (·.1)))
theorem Za:∀{ts:List Expr} {nls:List (Str×Nat)},Uj ts=some nls->nls.length=ts.length
 |[],_,h=>by cases h;rfl
 |e::es,_,h=>by
  rw[Uj]at h
  obtain⟨x,h1,h⟩:=aqD.mp h
  obtain⟨r,h2,h⟩:=aqD.mp h
  cases h
  simp[Za h2]
theorem Rj{sc:Scope}{l:Nat}:∀{ts:List Expr} {nls:List (Str×Nat)},Uj ts=some nls->nls.all (fun p=>p.2==l)=true->(∀x∈nls.map (·.1),sc.names.lookup x=some .local)->
  (ts.filterMap fun e=>match e with
  |.Name id pos=>if sc.names.lookup id==some .local&&pos.line==l then some id else none
  |_=>none)=nls.map (·.1)
 |[],_,h,_,_=>by cases h;rfl
 |e::es,_,h,hl,hk=>by
  rw[Uj]at h
  obtain⟨x,h1,h⟩:=aqD.mp h
  obtain⟨r,h2,h⟩:=aqD.mp h
  cases h
  rw[arb,aqF]at hl
  have ih:=Rj (sc:=sc) h2 hl.2 fun y hy=>hk y (aqJ _ hy)
  cases e with
  |Name y p=>
   cases h1
   have e1:=hk y aqK
   have e2:(if sc.names.lookup y==some .local&&p.line==l then some y else none)=some y:=by
    rw[e1,show(p.line==l)=true from hl.1]
    rfl
   simp only[List.filterMap_cons,e2,ih,aqI]
  |_=>cases h1
theorem Jw:∀(n:Nat) (l:List Str),l.length=n->l.eraseDups.length=l.length->l.Nodup:=by
 intro n
 induction n using Nat.strongRecOn with
 |_ n ih=>
  intro l hn h
  cases l with
  |nil=>exact arR
  |cons a r=>
   rw[arL]at h
   simp only[aqS]at h hn
   have h1:(r.filter fun b=>!b==a).length<=r.length:=aqW _ _
   have h2:∀l:List Str,l.eraseDups.length<=l.length:=by
    intro l
    induction hm:l.length using Nat.strongRecOn generalizing l with
    |_ m ihm=>
     cases l with
     |nil=>simp
     |cons x xs=>
      rw[arL]
      simp only[aqS]at hm ⊢
      have z:(xs.filter fun b=>!b==x).length<=xs.length:=aqW _ _
      have:=ihm _ (by omega) (xs.filter fun b=>!b==x) rfl
      omega
   have h3:=h2 (r.filter fun b=>!b==a)
   have e1:(r.filter fun b=>!b==a).length=r.length:=by omega
   have e2:(r.filter fun b=>!b==a)=r:=arM.mpr (List.length_filter_eq_length_iff.mp e1)
   rw[e2]at h
   rw[arB]
   refine⟨fun z=>?_,ih r.length (by omega) r rfl (by omega)⟩
   have:=arM.mp e2 a z
   simp at this
theorem aau{aj:aO}{c:Tc}{X:Cx}{W:WX}{k:Nat}(a:Amb aj c X W k):∀{xs:List Str} {js:List Nat},R6 c xs=some js->xs.Nodup->js.Nodup/\∀j∈js,∃x∈xs,X.N[j]?=some x
 |[],js,h,_=>by
  cases h
  exact⟨arR,fun j hj=>by simp at hj⟩
 |x::xs,js,h,nd=>by
  rw[R6]at h
  rw[arB]at nd
  split at h
  ·next e=>
   obtain⟨i,h1,h⟩:=aqD.mp h
   obtain⟨r,h2,h⟩:=aqD.mp h
   cases h
   obtain⟨i1,i2⟩:=aau a h2 nd.2
   have hi:X.N[i]?=some x:=by rw[a.hN];exact Ez h1
   refine⟨arB.mpr ⟨fun z=>?_,i1⟩,fun j hj=>?_⟩
   ·obtain⟨y,hy,e2⟩:=i2 i z
    rw[hi]at e2
    cases e2
    exact nd.1 hy
   ·rcases aqV.mp hj with rfl|hj
    ·exact⟨x,aqK,hi⟩
    ·obtain⟨y,hy,e2⟩:=i2 j hj
     exact⟨y,aqJ _ hy,e2⟩
  ·cases h
theorem ahE{vs:List Expr}(h:vs.all nst=true):(vs.any fun e=>match e with
  |.Starred _ _=>true
  |_=>false)=false:=by
 induction vs with
 |nil=>rfl
 |cons v vs ih=>
  rw[arb,aqF]at h
  rw[arD,ih h.2,Bool.or_false]
  cases v <;> first | rfl | cases h.1
theorem aki{aj:aO}{c:Tc}{X:Cx}{W:WX}{k:Nat}(a:qU aj c X W k){ts vs:List Expr}{js:List Nat}{kt k2:Nat}{pt p2:Pos}(h:pnB c ts vs=some js) :
  ∃xs:List Str,xs.length=js.length/\js.length<=3/\js.Nodup/\(∀(n:Nat) (x:Str) (j:Nat),xs[n]?=some x->js[n]?=some j->X.N[j]?=some x/\X.env.scope.names.lookup x=some .local)/\swappedStores [.Tuple ts kt pt] (.Tuple vs k2 p2) X.env=pure (some xs):=by
 unfold pnB at h
 obtain⟨nls,h1,h⟩:=aqD.mp h
 obtain⟨hb,h⟩:=aV.mp h
 simp only[aqF,aqY]at hb
 obtain⟨b1,b2,b3,b4,b5,b6,b7⟩:=hb
 have l1:=Za h1
 obtain⟨i1,i2⟩:=aaQ a.toAmb h
 have nd:=Jw _ _ rfl (by rw[aqO];exact eq_of_beq b5)
 obtain⟨d1,d2⟩:=aau a.toAmb h nd
 have hloc:∀x∈nls.map (·.1),X.env.scope.names.lookup x=some .local:=fun x hx=>by
  obtain⟨n,hn,e⟩:=List.mem_iff_getElem.mp hx
  have hj:n < js.length:=by rw[←i1];exact hn
  exact(i2 n x js[n] (by rw[aqH hn,e]) (aqH hj)).2
 have hf:=Rj (sc:=X.env.scope) h1 b4 hloc
 have h3:ts.length=2∨ts.length=3:=by
  rw[arW]at b1
  exact b1.imp eq_of_beq eq_of_beq
 refine⟨nls.map (·.1),i1,?_,d1,i2,?_⟩
 ·rw[←i1,aqO,l1]
  omega
 ·have eb:X.env.blockKind=.function:=by
   unfold PySem.Env.blockKind
   rw[a.kf]
   rfl
  unfold swappedStores
  have e1:(!(ts.length==2 || ts.length==3) || vs.length != ts.length || X.env.blockKind != .function)=false:=by
   rw[b1,eb,eq_of_beq b2]
   simp
  have e2:=ahE b3
  have e3:(nls.map (·.1)).length=ts.length:=by rw[aqO,l1]
  have e4:((nls.map (·.1)).length != ts.length || (nls.map (·.1)).eraseDups.length != (nls.map (·.1)).length)=false:=by
   rw[e3,eq_of_beq b5,l1]
   simp
  simp only[e1,aq9,if_false]
  generalize hA:List.filterMap (β:=Str) _ ts=A
  have eA:A=nls.map (·.1):=hA.symm.trans hf
  subst eA
  split
  ·next z=>exact absurd (z.symm.trans e2) (by decide)
  ·rw[e4,b6,b7]
   rfl
section
variable{X:Cx}{aj:aO}{W:WX}{q:Bool}{e:Expr}{pos:Pos}
theorem aiK{j:Nat}{y:Str}{py:Pos}{elt tg iter:Expr}{cpos:Pos}{scope:Scope}{own:List (Str×Nat)}{it:IF}{tgf:fK}{js:List Nat}{tt:QT}{te:QF}{ifs:List Expr}(hc:X.calm=true)(hN:X.N.Nodup)(hy:X.N[j]?=some y)(hyl:X.env.scope.names.lookup y=some .local)
  (hsw:swapsWith (.ListComp elt [⟨tg,iter,ifs,0⟩] scope cpos) (some (.Name y py)) pos.line X.env=pure true) (hi:QI aj X W false tg iter it) (ok:blkC X.N X.env.scope scope own=true) (hj:∀j∈js,j∈own.map (·.2))
  (hg:∀(s:Shared) (H:Hp) (C:Addr) (cl:List (Str×Addr)) (fp:List Addr),QG aj (X.blk s H scope (compEnvC scope cl C X.env) fp) tg js tgf)
  (ht:∀(s:Shared) (H:Hp) (C:Addr) (cl:List (Str×Addr)) (fp:List Addr),PTs (X.blk s H scope (compEnvC scope cl C X.env) fp) ifs (j9 X.K aj WF tt))
  (he:∀(s:Shared) (H:Hp) (C:Addr) (cl:List (Str×Addr)) (fp:List Addr),QE aj (X.blk s H scope (compEnvC scope cl C X.env) fp) WF elt te) (hs:∀x,foldedSetIterable iter X.env x=pure x) :
  SE aj X W q (.Assign [.Name y py] (.ListComp elt [⟨tg,iter,ifs,0⟩] scope cpos) pos) (Hu j (Cp it tgf (own.map (·.2)) tt te)):=by
 refine PS.weak (ps_setLc (g:=zJ X.K aj js tgf) (tt:=j9 X.K aj WF tt) (te:=tQ X.K aj WF te) hc hN hy hyl hsw hi (blkOk_by ok) (fun s H C cl fp=>hg s H C cl fp) ht (fun s H C cl fp=>he s H C cl fp) hs) fun D σ H h=>?_
 exact Yg hj σ H _ (adh D σ H h)
end
def afV(t:Tr)(c:Tc)(elt tg iter:Expr)(ifs:List Expr)(scope:Scope):Option IF:=
 (t.I c false tg iter).bind fun it=>(UG (c.inn scope) tg).bind fun jt=>(S8 t (c.inn scope) ifs).bind fun tt=>(t.E (c.inn scope) elt).bind fun te=>
  gd (blkC c.N c.sc scope (pB tg jt.1)&&(Od jt.1 ((pB tg jt.1).map (·.2))&&!yt iter)) (some (Cp it jt.2 ((pB tg jt.1).map (·.2)) tt te))
def Ur(t:Tr)(c:Tc)(x:Str)(p:Pos)(elt tg iter:Expr)(ifs:List Expr)(scope:Scope)(cpos:Pos):Option SF:=
 (vm c x).bind fun j=>gd (swB c.sc (.ListComp elt [⟨tg,iter,ifs,0⟩] scope cpos) scope x p || !(p.line==(Expr.ListComp elt [⟨tg,iter,ifs,0⟩] scope cpos).pos.line))
  (match c.ml.contains x with
  |true=>(afV t c elt tg iter ifs scope).bind fun f=>some (Hu j f)
  |false=>(Xj t c elt tg iter ifs scope).bind fun f=>some (aW (aF j) (gOf f)))
section
variable{aj:aO}{c:Tc}{X:Cx}{W:WX}{k:Nat}{t:Tr}{q:Bool}
theorem ab6(o:t.Ok)(a:qU aj c X W k){x:Str}{p cpos pos:Pos}{elt tg iter:Expr}{ifs:List Expr}{scope:Scope}{f:SF}(h:Ur t c x p elt tg iter ifs scope cpos=some f):SE aj X W q (.Assign [.Name x p] (.ListComp elt [⟨tg,iter,ifs,0⟩] scope cpos) pos) f:=by
 unfold Ur at h
 obtain⟨j,hj,h⟩:=aqD.mp h
 obtain⟨hsw,h⟩:=aV.mp h
 obtain⟨s1,s2,s3⟩:=mD a.toAmb hj
 rw[arW]at hsw
 split at h
 ·obtain⟨f1,h1,h⟩:=aqD.mp h
  cases h
  unfold afV at h1
  obtain⟨it,h2,h1⟩:=aqD.mp h1
  obtain⟨⟨js,tf⟩,h3,h1⟩:=aqD.mp h1
  obtain⟨tt,h4,h1⟩:=aqD.mp h1
  obtain⟨te,h5,h1⟩:=aqD.mp h1
  obtain⟨hb,h1⟩:=aV.mp h1
  cases h1
  simp only[aqF,aqY]at hb
  obtain⟨b1,b2,b3⟩:=hb
  rcases hsw with hsw|hsw
  ·rw[←a.hs]at hsw
   obtain⟨l1,l2⟩:=Qh (l:=pos.line) a.kf hsw
   exact aiK a.calm a.nd s1 l1 l2 (o.oi a.toAmb h2) (by rw[a.hN,a.hs];exact b1) (pC b2) (fun s H C cl fp=>uP (a.toAmb.inn scope s H C cl fp) h3) (fun s H C cl fp=>vU o (a.toAmb.inn scope s H C cl fp) h4) (fun s H C cl fp=>o.oe (a.toAmb.inn scope s H C cl fp) h5) (qR b3)
  ·exact adu a.nd s1 s2 s3 (alU a.calm a.nd (o.oi a.toAmb h2) (by rw[a.hN,a.hs];exact b1) (pC b2) (fun s H C cl fp=>uP (a.toAmb.inn scope s H C cl fp) h3) (fun s H C cl fp=>vU o (a.toAmb.inn scope s H C cl fp) h4) (fun s H C cl fp=>o.oe (a.toAmb.inn scope s H C cl fp) h5) (qR b3)) (ac7 (by simpa using hsw))
 ·obtain⟨f1,h1,h⟩:=aqD.mp h
  cases h
  rcases hsw with hsw|hsw
  ·rw[←a.hs]at hsw
   obtain⟨l1,l2⟩:=Qh (l:=pos.line) a.kf hsw
   unfold Xj at h1
   obtain⟨it,h2,h1⟩:=aqD.mp h1
   obtain⟨⟨js,tf⟩,h3,h1⟩:=aqD.mp h1
   obtain⟨tt,h4,h1⟩:=aqD.mp h1
   obtain⟨te,h5,h1⟩:=aqD.mp h1
   obtain⟨hb,h1⟩:=aV.mp h1
   cases h1
   simp only[aqF,aqY]at hb
   obtain⟨b1,b2,b3⟩:=hb
   exact ah3 a.calm a.nd s1 l1 l2 (o.oi a.toAmb h2) (by rw[a.hN,a.hs];exact b1) (pC b2) (fun s H C cl fp=>uP (a.toAmb.inn scope s H C cl fp) h3) (fun s H C cl fp=>vU o (a.toAmb.inn scope s H C cl fp) h4) (fun s H C cl fp=>o.oe (a.toAmb.inn scope s H C cl fp) h5) (qR b3)
  ·exact XD (afU (abb o a.toAmb h1)) (Ui a.nd s1 s2 s3) (ac7 (l:=pos.line) (by simpa using hsw)) (by with_unfolding_all rfl) (by with_unfolding_all rfl)
end
theorem Bl{tg e:Expr}{l:Nat}{env:PySem.Env}(h:Ek e=false):swapsWithSole [tg] e l env=pure false:=Fo h
def acn(t:Tr)(s:Ts)(c:Tc):Expr->Expr->Option SF
 |.Name x p,.ListComp elt [⟨tg,iter,ifs,0⟩] scope cpos=>Ur t c x p elt tg iter ifs scope cpos
 |.Name x _,e=>(vm c x).bind fun j=>match c.ml.contains x with
  |true=>(trN t c e).bind fun f=>some (Hu j f)
  |false=>gd (!Ek e) ((s.G c e).bind fun f=>some (aW (aF j) f))
 |.Tuple [.Name x _,.Starred (.Name y _) _] _ _,e=>(vm c x).bind fun i=>(vm c y).bind fun j=>gd (!Ek e&&!acd e) ((s.G c e).bind fun f=>some (W8 i j f))
 |.Tuple ts _ _,.Tuple vs _ _=>(pnB c ts vs).bind fun js=>(Ep t c vs).bind fun f=>some (sPN js f)
 |.Tuple ts _ _,e=>(Zy c ts).bind fun js=>gd (!Ek e&&!acd e) ((s.G c e).bind fun f=>some (aW (bL js) f))
 |_,_=>none
theorem P0{tg e:Expr}{env:PySem.Env}(h:acd e=false):swappedStores [tg] e env=pure none:=by
 cases tg <;> first | rfl | (cases e <;> first | rfl | cases h)
section
variable{aj:aO}{c:Tc}{X:Cx}{W:WX}{k:Nat}{t:Tr}{s:Ts}{q:Bool}
theorem afi(o:t.Ok)(os:s.Ok q)(a:qU aj c X W k){tg e:Expr}{pos:Pos}{f:SF}(h:acn t s c tg e=some f):SE aj X W q (.Assign [tg] e pos) f:=by
 unfold acn at h
 split at h
 ·exact ab6 o a h
 ·obtain⟨j,hj,h⟩:=aqD.mp h
  obtain⟨s1,s2,s3⟩:=mD a.toAmb hj
  split at h
  ·obtain⟨f1,h1,h⟩:=aqD.mp h
   cases h
   obtain⟨i1,i2⟩:=aer o a.toAmb h1
   exact adu a.nd s1 s2 s3 i1 (Fo i2)
  ·obtain⟨hc,h⟩:=aV.mp h
   obtain⟨f1,h1,h⟩:=aqD.mp h
   cases h
   exact XD (os.og a h1) (Ui a.nd s1 s2 s3) (Bl (by simpa using hc)) (by with_unfolding_all rfl) (by with_unfolding_all rfl)
 ·obtain⟨i,hi,h⟩:=aqD.mp h
  obtain⟨j,hj,h⟩:=aqD.mp h
  obtain⟨hc,h⟩:=aV.mp h
  obtain⟨f1,h1,h⟩:=aqD.mp h
  cases h
  simp only[aqF,aqY]at hc
  exact ags a.calm a.nd (mD a.toAmb hi) (mD a.toAmb hj) (os.og a h1) (Bl hc.1) (P0 hc.2)
 ·obtain⟨js,hj,h⟩:=aqD.mp h
  obtain⟨f1,h1,h⟩:=aqD.mp h
  cases h
  obtain⟨xs,p1,p2,p3,p4,p5⟩:=aki a hj
  exact alh a.calm a.nd p3 p1 p2 p4 (rW o a.toAmb h1).1 p5 (Bl rfl)
 ·obtain⟨js,hj,h⟩:=aqD.mp h
  obtain⟨hc,h⟩:=aV.mp h
  obtain⟨f1,h1,h⟩:=aqD.mp h
  cases h
  simp only[aqF,aqY]at hc
  exact XD (os.og a h1) (adY a.calm a.nd (RQ a.toAmb hj)) (Bl hc.1) (P0 hc.2) (by with_unfolding_all rfl)
 ·cases h
end
def acg(s:Ts)(c:Tc):List Stmt->Option SF
 |[]=>some aR
 |[a]=>s.S c a
 |a::b::r=>(s.S c a).bind fun f=>(s.B c (b::r)).bind fun g=>some (aD f g)
def stS(t:Tr)(s:Ts)(c:Tc):Stmt->Option SF
 |.Assign [tg] e _=>acn t s c tg e
 |.Assign [.Name x _,.Name y _] e _=>(vm c x).bind fun i=>(vm c y).bind fun j=>gd (!acd e) ((s.G c e).bind fun f=>some (Q6 i j f))
 |.AugAssign (.Name x _) .Add e _=>(vm c x).bind fun j=>(t.E c e).bind fun f=>some (O5 j f)
 |.Expr (.Call (.Attribute (.Name x _) m apos) [e] [] pos) _=>(Lf c x).bind fun j=>gd (m=="append"&&(c.ml.contains x&&(nst e&&(apos.endLine==pos.line)))) ((t.E c e).bind fun f=>some (Og j f))
 |.Return (some e) _=>(match t.E c e with
  |some f=>some (aQ f)
  |none=>(s.G c e).bind fun f=>some (gY f))
 |.If d s1 s2 _=>(s.B c s1).bind fun f=>(s.B c s2).bind fun g=>match t.T c d with
  |some td=>some (bO td f g)
  |none=>(s.H c d).bind fun td=>some (ace td f g)
 |.For tg iter body [] _=>(t.I c true tg iter).bind fun it=>(UG c tg).bind fun jt=>(s.B c body).bind fun f=>gd (!yt iter) (some (sW it jt.2 f))
 |_=>none
section
variable{aj:aO}{c:Tc}{X:Cx}{W:WX}{k:Nat}{t:Tr}{s:Ts}{q:Bool}
theorem aeP(os:s.Ok q)(a:qU aj c X W k){b:List Stmt}{f:SF}(h:acg s c b=some f):Dm aj X W q b f:=by
 unfold acg at h
 split at h
 ·cases h;exact ai5
 ·exact ajr (os.os a h)
 ·obtain⟨f1,h1,h⟩:=aqD.mp h
  obtain⟨f2,h2,h⟩:=aqD.mp h
  cases h
  exact agX (os.os a h1) (os.ob a h2)
theorem aiY(o:t.Ok)(os:s.Ok q)(a:qU aj c X W k){st:Stmt}{f:SF}(h:stS t s c st=some f):SE aj X W q st f:=by
 unfold stS at h
 split at h
 ·exact afi o os a h
 ·obtain⟨i,hi,h⟩:=aqD.mp h
  obtain⟨j,hj,h⟩:=aqD.mp h
  obtain⟨hc,h⟩:=aV.mp h
  obtain⟨f1,h1,h⟩:=aqD.mp h
  cases h
  exact ahe a.nd (mD a.toAmb hi) (mD a.toAmb hj) (os.og a h1) (by with_unfolding_all rfl)
 ·obtain⟨j,hj,h⟩:=aqD.mp h
  obtain⟨f1,h1,h⟩:=aqD.mp h
  cases h
  obtain⟨s1,s2,s3⟩:=mD a.toAmb hj
  exact ajD a.nd s1 s2 s3 (o.oe a.toAmb h1)
 ·obtain⟨j,hj,h⟩:=aqD.mp h
  obtain⟨hc,h⟩:=aV.mp h
  obtain⟨f1,h1,h⟩:=aqD.mp h
  cases h
  simp only[aqF]at hc
  cases eq_of_beq hc.1
  obtain⟨s1,s2,s3,s4⟩:=zq a.toAmb hj
  exact aiv s1 s2 s3 s4 (o.oe a.toAmb h1) hc.2.2.1 hc.2.2.2
 ·split at h
  ·next f1 h1=>
   cases h
   exact aj4 (o.oe a.toAmb h1)
  ·obtain⟨f1,h1,h⟩:=aqD.mp h
   cases h
   exact ahz (os.og a h1)
 ·obtain⟨f1,h1,h⟩:=aqD.mp h
  obtain⟨f2,h2,h⟩:=aqD.mp h
  split at h
  ·next td h3=>
   cases h
   exact ak8 (o.ot a.toAmb h3) (os.ob a h1) (os.ob a h2)
  ·obtain⟨td,h3,h⟩:=aqD.mp h
   cases h
   exact akg (os.oh a h3) (os.ob a h1) (os.ob a h2)
 ·obtain⟨it,h1,h⟩:=aqD.mp h
  obtain⟨⟨js,tf⟩,h2,h⟩:=aqD.mp h
  obtain⟨f1,h3,h⟩:=aqD.mp h
  obtain⟨hc,h⟩:=aV.mp h
  cases h
  exact aiG a.ps a.calm (o.oi a.toAmb h1) (uP a.toAmb h2) (os.ob a h3) (qR (by simpa using hc))
 ·cases h
end
abbrev GA:=Mo->Env->aZ (List Dat)
def tEA(K:aqE)(aj:aO)(W:WX)(q:Bool)(f:GA):TA:=fun σ H Q=>∃g ρ M,SInv K aj σ H g ρ M/\(f M ρ).sat (fun ds M'=>∀vs H' g',Gr q g g' H H'->SInv K aj σ H' g' ρ M'->aH K g' H' vs ds->Q vs H') (gE K aj W q g H σ ρ)
def GAe(aj:aO)(X:Cx)(W:WX)(q:Bool)(es:List Expr)(f:GA):Prop:=PA X es (tEA X.K aj W q f)
def Xa:GA:=fun M _=>.ok [] M
def Eu(a:GF)(r:GA):GA:=fun M ρ=>(a M ρ).bind fun d M1=>(r M1 ρ).bind fun ds M2=>.ok (d::ds) M2
def Yt(m:Mo->List Dat->aZ Dat)(as:GA):GF:=fun M ρ=>(as M ρ).bind fun ds M1=>m M1 ds
def Qw(m:Mo->List Dat->Out Dat)(as:GA):GF:=fun M ρ=>(as M ρ).bind fun ds M1=>(m M1 ds).at M1
section
variable{X:Cx}{aj:aO}{W:WX}{q:Bool}{a b e:Expr}{es:List Expr}{pos p:Pos}
theorem ajp:GAe aj X W q [] Xa:=PA.weak pa_nil fun σ H Q ⟨g,ρ,M,I,h⟩=>h [] H g .refl I .nil
theorem agJ{fa:GF}{fr:GA}(ha:GE aj X W q a fa)(hr:GAe aj X W q es fr)(hs:nst a=true):GAe aj X W q (a::es) (Eu fa fr):=
 PA.weak (pa_cons ha hr (cI hs es)) fun σ H Q ⟨g,ρ,M,I,h⟩=>by
  refine tE.go I h.bnd fun d M1 v H1 g1 h1 r1 I1 rv=>?_
  exact⟨g1,ρ,M1,I1,h1.bnd.mono (fun ds M2 h2 vs H2 g2 r2 I2 rs=>h2 (v::vs) H2 g2 (r1.trans r2) I2 (.cons (rv.gr r2 I1.kd) rs)) fun x M' z=>z.gr r1⟩
variable{x:Str}{k:Nat}{f:Addr}{fd:FuncData}{ps:List Str}
theorem ae9{m:Mo->List Dat->aZ Dat}{as:GA}(tk:Takes X W)(F:FnOk X.prog X.w X.K X.mg X.base (L2.CX X.prog X.w) k f fd ps (Gi X.K aj ps.length m))(hr:Room k X.A)(hg:Gl X x)(hm:X.mg x=some (.ref f))(hk:PySem.W.keepIn X.K (.ref f)=true)(hb:Binds X.K fd ps [])
  (ha:GAe aj X W false (e::es) as) (hl:(e::es).length=ps.length) (hd:(x==("__debug__" : Str))=false) (hs:(e::es).all nst=true) (hn:∀M ρ ds M',as M ρ=.ok ds M'->ds.length=(e::es).length):GE aj X W false (.Call (.Name x p) (e::es) [] pos) (Yt m as):=by
 have hs':=hs
 rw[arb,aqF]at hs'
 refine PE.weak (pe_callS (E:=fun σ=>WE W σ) F hr hg hm hk hb (fun σ=>passAt tk σ) ha hd (cI hs'.1 es) (star_any es hs'.2)) fun σ H Q ⟨g,ρ,M,I,h⟩=>?_
 refine⟨g,ρ,M,I,?_⟩
 have h:=h.bnd
 cases has:as M ρ with
 |exc x M1=>rw[has]at h;exact h
 |bad=>rw[has]at h;exact False.elim h
 |ok ds M1=>
  rw[has]at h
  have h:(m M1 ds).sat (fun d M'=>∀v H' g',Gr false g g' H H'->SInv X.K aj σ H' g' ρ M'->Rep X.K g' H' v d->Q v H') (gE X.K aj W false g H σ ρ):=h
  intro vs H1 g1 r1 I1 rs
  exact⟨by rw[rs.length,hn M ρ ds M1 has];exact hl,g1,M1,ds,I1.kd,I1.wok,rs,h.mono (fun d M' kk v H' g' c k' w' r'=>kk v H' g' (r1.trans c.gr) (I1.call c k' w') r') fun x M' kk H' g' cc dd c k' w' r'=>kk H' g' cc dd (r1.trans c.gr) (I1.call c k' w') r'⟩
theorem afa{m:Mo->List Dat->Out Dat}{as:GA}(tk:Takes X W)(F:FnOk X.prog X.w X.K X.mg X.base (L2.CX X.prog X.w) k f fd ps (QJ X.K aj ps.length m))(hr:Room k X.A)(hg:Gl X x)(hm:X.mg x=some (.ref f))(hk:PySem.W.keepIn X.K (.ref f)=true)(hb:Binds X.K fd ps [])
  (ha:GAe aj X W false (e::es) as) (hl:(e::es).length=ps.length) (hd:(x==("__debug__" : Str))=false) (hs:(e::es).all nst=true) (hn:∀M ρ ds M',as M ρ=.ok ds M'->ds.length=(e::es).length):GE aj X W false (.Call (.Name x p) (e::es) [] pos) (Qw m as):=by
 have hs':=hs
 rw[arb,aqF]at hs'
 refine PE.weak (pe_callS (E:=fun σ=>WE W σ) F hr hg hm hk hb (fun σ=>passAt tk σ) ha hd (cI hs'.1 es) (star_any es hs'.2)) fun σ H Q ⟨g,ρ,M,I,h⟩=>?_
 refine⟨g,ρ,M,I,?_⟩
 have h:=h.bnd
 cases has:as M ρ with
 |exc x M1=>rw[has]at h;exact h
 |bad=>rw[has]at h;exact False.elim h
 |ok ds M1=>
  rw[has]at h
  have h:((m M1 ds).at M1).sat (fun d M'=>∀v H' g',Gr false g g' H H'->SInv X.K aj σ H' g' ρ M'->Rep X.K g' H' v d->Q v H') (gE X.K aj W false g H σ ρ):=h
  intro vs H1 g1 r1 I1 rs
  exact⟨by rw[rs.length,hn M ρ ds M1 has];exact hl,g1,M1,ds,I1.kd,I1.wok,rs,(Out.gK h).mono (fun d kk v H' e' r'=>kk v H' g1 (r1.trans (Gr.ex e')) (I1.ex e') r') fun x kk H' cc dd e' r'=>kk H' g1 cc dd (r1.trans (Gr.ex e')) (I1.ex e') r'⟩
def W6(a:GT):GT:=fun M ρ=>(a M ρ).bind fun b M1=>.ok (!b) M1
def abV(a b:GT):GT:=fun M ρ=>(a M ρ).bind fun x M1=>if x=true then b M1 ρ else .ok false M1
def aeM(a b:GT):GT:=fun M ρ=>(a M ρ).bind fun x M1=>if x=true then .ok true M1 else b M1 ρ
def WT(a:GF):GT:=fun M ρ=>(a M ρ).bind fun d M1=>(Io d).at M1
theorem ah4{ta:GT}(ha:Eo aj X W q a ta):Eo aj X W q (.UnaryOp .Not a pos) (W6 ta):=
 PT.weak (pt_not ha) fun σ H Q ⟨g,ρ,M,I,h⟩=>Ru.go I h.bnd fun b M' H1 g1 h1 r1 I1=>h1 H1 g1 r1 I1
theorem akD{rest:List Expr}{ta tb:GT}(ha:Eo aj X W q a ta)(hb:Eo aj X W q (.BoolOp .And (b::rest) pos) tb):Eo aj X W q (.BoolOp .And (a::b::rest) pos) (abV ta tb):=by
 have hb':PW X (.BoolOp .And (b::rest) pos) (Ru X.K aj W q tb):=⟨fun wh pins s σ H Q I z=>hb.run pins s σ H Q I z⟩
 refine PT.weak (PW.pt (pw_and ha hb')) fun σ H Q ⟨g,ρ,M,I,h⟩=>?_
 refine Ru.go I h.bnd fun x M1 H1 g1 h1 r1 I1=>?_
 cases x with
 |true=>exact⟨g1,ρ,M1,I1,h1.mono (fun b M' k H' g' r' I'=>k H' g' (r1.trans r') I') fun _ _ z=>z.gr r1⟩
 |false=>exact h1 H1 g1 r1 I1
theorem alr{rest:List Expr}{ta tb:GT}(ha:Eo aj X W q a ta)(hb:Eo aj X W q (.BoolOp .Or (b::rest) pos) tb):Eo aj X W q (.BoolOp .Or (a::b::rest) pos) (aeM ta tb):=by
 have hb':PW X (.BoolOp .Or (b::rest) pos) (Ru X.K aj W q tb):=⟨fun wh pins s σ H Q I z=>hb.run pins s σ H Q I z⟩
 refine PT.weak (PW.pt (pw_or ha hb')) fun σ H Q ⟨g,ρ,M,I,h⟩=>?_
 refine Ru.go I h.bnd fun x M1 H1 g1 h1 r1 I1=>?_
 cases x with
 |true=>exact h1 H1 g1 r1 I1
 |false=>exact⟨g1,ρ,M1,I1,h1.mono (fun b M' k H' g' r' I'=>k H' g' (r1.trans r') I') fun _ _ z=>z.gr r1⟩
theorem ai0{fa:GF}(ha:GE aj X W q a fa)(he:∀whole,isTrue a X.env whole=(do let v ←whole;standAt a.pos;holding [v] (truthy v))):Eo aj X W q a (WT fa):=
 PT.weak (pt_truth ha he) fun σ H Q ⟨g,ρ,M,I,h⟩=>by
  refine tE.go I h.bnd fun d M1 v H1 g1 h1 r1 I1 rv=>?_
  obtain⟨k,h2,h3⟩:=adE rv.weak (Out.gK h1)
  exact⟨k,h2,h3 H1 g1 r1 I1⟩
end
def Yh(s:Ts)(c:Tc):List Expr->Option GA
 |[]=>some Xa
 |a::es=>gd (nst a) ((s.G c a).bind fun fa=>(Yh s c es).bind fun fr=>some (Eu fa fr))
section
variable{aj:aO}{c:Tc}{X:Cx}{W:WX}{k:Nat}{t:Tr}{s:Ts}{q:Bool}
theorem T7(os:s.Ok q)(a:qU aj c X W k):∀{es:List Expr} {f:GA},Yh s c es=some f->GAe aj X W q es f/\es.all nst=true/\∀M ρ ds M',f M ρ=.ok ds M'->ds.length=es.length
 |[],f,h=>by
  cases h
  exact⟨ajp,rfl,fun M ρ ds M' e=>by cases e;rfl⟩
 |e::es,f,h=>by
  rw[Yh,aV]at h
  obtain⟨hs,h⟩:=h
  obtain⟨fa,h1,h⟩:=aqD.mp h
  obtain⟨fr,h2,h⟩:=aqD.mp h
  cases h
  obtain⟨i1,i2,i3⟩:=T7 os a h2
  refine⟨agJ (os.og a h1) i1 hs,by simp[hs,i2],fun M ρ ds M' e=>?_⟩
  unfold Eu at e
  cases hf:fa M ρ with
  |ok d M1=>
   rw[hf]at e
   have e:((fr M1 ρ).bind fun ds M2=>aZ.ok (d::ds) M2)=.ok ds M':=e
   cases hr:fr M1 ρ with
   |ok dr M2=>
    rw[hr]at e
    cases e
    simp[i3 M1 ρ dr _ hr]
   |exc y M2=>rw[hr]at e;cases e
   |bad=>rw[hr]at e;cases e
  |exc y M1=>rw[hf]at e;cases e
  |bad=>rw[hf]at e;cases e
def xG(t:Tr)(s:Ts)(c:Tc):Expr->Option GF
 |.Call (.Name x _) [] [] _=>(match c.G.lookup x with
  |some (.cls 0 m)=>gd (DR c.sc x&&!CW x) (some (zY x m au))
  |_=>none)
 |.Call (.Name x _) (e::es) [] _=>(match c.G.lookup x with
  |some (.fg n m)=>gd (DR c.sc x&&(!CW x&&decide ((e::es).length=n))) (match Ep t c (e::es) with
   |some as=>some (Bh m as)
   |none=>(Yh s c (e::es)).bind fun as=>some (Yt m as))
  |some (.fq n m)=>gd (DR c.sc x&&(!CW x&&decide ((e::es).length=n))) ((Yh s c (e::es)).bind fun as=>some (Qw m as))
  |some (.cls n m)=>gd (DR c.sc x&&(!CW x&&decide ((e::es).length=n))) ((Ep t c (e::es)).bind fun as=>some (zY x m as))
  |_=>none)
 |.Call (.Attribute o m apos) es [] pos=>(c.hs.Ms.lookup m).bind fun tb=>(t.W c o).bind fun fo=>(Ep t c es).bind fun as=>
  gd (tbN tb (es.length+1)&&(baseOk o&&(decide (es.length < 30)&&(apos.endLine==pos.line)))) (some (cM tb fo as))
 |_=>none
theorem alI(o:t.Ok)(os:s.Ok false)(a:qU aj c X W k){e:Expr}{f:GF}(h:xG t s c e=some f):GE aj X W false e f:=by
 unfold xG at h
 split at h
 ·split at h
  ·next m hl=>
   obtain⟨hb,h⟩:=aV.mp h
   cases h
   simp only[aqF,aqY]at hb
   exact agu a.rm (a.gl _ _ hl) (pG a.toAmb hb.1) (oY hb.2).1
  ·cases h
 ·split at h
  ·next n m hl=>
   obtain⟨hb,h⟩:=aV.mp h
   simp only[aqF,aqY,decide_eq_true_eq]at hb
   obtain⟨b1,b2,b3⟩:=hb
   obtain⟨fa,hm,hk,fd,ps,j,hj,hp,hB,F⟩:=a.gl _ _ hl
   split at h
   ·next as h1=>
    cases h
    obtain⟨i1,i2,i3⟩:=rW o a.toAmb h1
    exact ahG a.tk F (a.rm.mono hj) (pG a.toAmb b1) hm hk hB i1 (b3.trans hp.symm) (oY b2).1 i2 i3
   ·obtain⟨as,h1,h⟩:=aqD.mp h
    cases h
    obtain⟨i1,i2,i3⟩:=T7 os a h1
    exact ae9 a.tk F (a.rm.mono hj) (pG a.toAmb b1) hm hk hB i1 (b3.trans hp.symm) (oY b2).1 i2 i3
  ·next n m hl=>
   obtain⟨hb,h⟩:=aV.mp h
   simp only[aqF,aqY,decide_eq_true_eq]at hb
   obtain⟨b1,b2,b3⟩:=hb
   obtain⟨fa,hm,hk,fd,ps,j,hj,hp,hB,F⟩:=a.gl _ _ hl
   obtain⟨as,h1,h⟩:=aqD.mp h
   cases h
   obtain⟨i1,i2,i3⟩:=T7 os a h1
   exact afa a.tk F (a.rm.mono hj) (pG a.toAmb b1) hm hk hB i1 (b3.trans hp.symm) (oY b2).1 i2 i3
  ·next n m hl=>
   obtain⟨hb,h⟩:=aV.mp h
   simp only[aqF,aqY,decide_eq_true_eq]at hb
   obtain⟨b1,b2,b3⟩:=hb
   obtain⟨as,h1,h⟩:=aqD.mp h
   cases h
   obtain⟨i1,i2,i3⟩:=rW o a.toAmb h1
   exact ajZ a.rm (a.gl _ _ hl) (pG a.toAmb b1) (oY b2).1 i1 i2 (fun M ρ ds z=>by rw[i3 M ρ ds z];exact b3)
  ·cases h
 ·next b m apos es pos=>
  obtain⟨tb,h1,h⟩:=aqD.mp h
  obtain⟨fo,h2,h⟩:=aqD.mp h
  obtain⟨as,h3,h⟩:=aqD.mp h
  obtain⟨hb,h⟩:=aV.mp h
  cases h
  simp only[aqF,decide_eq_true_eq]at hb
  obtain⟨b2,b3,b4,b5⟩:=hb
  obtain⟨i1,i2,i3⟩:=rW o a.toAmb h3
  cases es with
  |nil=>
   cases h3
   exact aeB a.tk a.rm (WR a.toAmb h1 b2) (o.ow a.toAmb h2) b3 b5
  |cons e es=>exact ag5 a.tk a.rm (WR a.toAmb h1 b2) (o.ow a.toAmb h2) i1 i3 b3 i2 b5 b4
 ·cases h
def xH(s:Ts)(c:Tc):Expr->Option GT
 |.UnaryOp .Not a _=>(s.H c a).bind fun f=>some (W6 f)
 |.BoolOp .And (a::b::r) p=>(s.H c a).bind fun f=>(s.H c (.BoolOp .And (b::r) p)).bind fun g=>some (abV f g)
 |.BoolOp .Or (a::b::r) p=>(s.H c a).bind fun f=>(s.H c (.BoolOp .Or (b::r) p)).bind fun g=>some (aeM f g)
 |.BoolOp _ [a] _=>s.H c a
 |e=>gd (valT e) ((s.G c e).bind fun f=>some (WT f))
theorem ak1(os:s.Ok q)(a:qU aj c X W k){e:Expr}{f:GT}(h:xH s c e=some f):Eo aj X W q e f:=by
 unfold xH at h
 split at h
 ·obtain⟨f1,h1,h⟩:=aqD.mp h
  cases h
  exact ah4 (os.oh a h1)
 ·obtain⟨f1,h1,h⟩:=aqD.mp h
  obtain⟨f2,h2,h⟩:=aqD.mp h
  cases h
  exact akD (os.oh a h1) (os.oh a h2)
 ·obtain⟨f1,h1,h⟩:=aqD.mp h
  obtain⟨f2,h2,h⟩:=aqD.mp h
  cases h
  exact alr (os.oh a h1) (os.oh a h2)
 ·next op _ _=>
  cases op
  ·exact PW.pt (pw_and1 (os.oh a h))
  ·exact PW.pt (pw_or1 (os.oh a h))
 ·obtain⟨hv,h⟩:=aV.mp h
  obtain⟨f1,h1,h⟩:=aqD.mp h
  cases h
  exact ai0 (os.og a h1) (abf hv)
end
section
variable{aj:aO}{c:Tc}{X:Cx}{W:WX}{k:Nat}{t:Tr}{s:Ts}{q:Bool}
theorem Hq{e o:Expr}{f:Str}{p:Pos}{l:Nat}{env:PySem.Env}:swapsWith e (some (.Attribute o f p)) l env=pure false:=by
 cases e <;> rfl
theorem aeS{e o:Expr}{i:Expr}{p:Pos}{l:Nat}{env:PySem.Env}:swapsWith e (some (.Subscript o i p)) l env=pure false:=by
 cases e <;> rfl
theorem aeW{o:Expr}{f:Str}{p spos:Pos}{i:Expr}{env:PySem.Env}(h:X3 i=false):∀v,assign (.Subscript (.Attribute o f p) i spos) env v=(do
   let ov ←holding [v] (eval (.Attribute o f p) env)
   let iv ←holding [v,ov] (eval i env)
   standAt spos
   holding [v,ov,iv] (setItem ov iv v)
   release [v,ov,iv] []):=fun v=>by
 cases i <;> first | (with_unfolding_all rfl) | cases h
def ai4(t:Tr)(c:Tc)(kx tg iter:Expr)(scope:Scope):Option (Mo->Env->Out (List (Dat×Dat))):=
 (t.I c false tg iter).bind fun it=>(UG (c.inn scope) tg).bind fun jt=>(t.E (c.inn scope) kx).bind fun te=>
  gd (blkC c.N c.sc scope (pB tg jt.1)&&(Od jt.1 ((pB tg jt.1).map (·.2))&&!yt iter)) (some (qDc it jt.2 ((pB tg jt.1).map (·.2)) te))
theorem afg(a:Amb aj c X W k):X.A.units+64 < cLine:=by have:=a.rm.un;omega
def ae6(t:Tr)(s:Ts)(c:Tc)(o:Expr)(f:Str):Expr->Option SF
 |.Dict [] [] _=>(t.W c o).bind fun fo=>(c.hs.df.lookup f).bind fun b=>some (Lq c.hs.ft fo f b)
 |.DictComp kx (.Constant (.bool true) _ _) [⟨tg,iter,[],0⟩] scope _=>(t.W c o).bind fun fo=>(ai4 t c kx tg iter scope).bind fun fe=>some (Qs c.hs.ft fo f fe)
 |.List es p=>(t.W c o).bind fun fo=>(trN t c (.List es p)).bind fun fe=>some (CT c.hs.ft fo f fe)
 |e=>gd (!Ek e) ((t.W c o).bind fun fo=>(s.G c e).bind fun fe=>some (uF c.hs.ft fo f fe))
theorem agt(ot:t.Ok)(os:s.Ok false)(a:qU aj c X W k){o e:Expr}{f:Str}{p pos:Pos}{sf:SF}(h:ae6 t s c o f e=some sf):SE aj X W false (.Assign [.Attribute o f p] e pos) sf:=by
 have hk:=a.hk
 unfold ae6 at h
 split at h
 ·obtain⟨fo,h1,h⟩:=aqD.mp h
  obtain⟨b,h2,h⟩:=aqD.mp h
  cases h
  exact agV hk.co hk.fk hk.hw (ot.ow a.toAmb h1) Hq
 ·obtain⟨fo,h1,h⟩:=aqD.mp h
  obtain⟨fe,h2,h⟩:=aqD.mp h
  cases h
  unfold ai4 at h2
  obtain⟨it,i1,h2⟩:=aqD.mp h2
  obtain⟨⟨js,tf⟩,i2,h2⟩:=aqD.mp h2
  obtain⟨te,i3,h2⟩:=aqD.mp h2
  obtain⟨hb,h2⟩:=aV.mp h2
  cases h2
  simp only[aqF,aqY]at hb
  obtain⟨b1,b2,b3⟩:=hb
  exact ahH hk.co hk.fk (ot.ow a.toAmb h1) (aj2 (g:=zJ X.K aj js tf) (tk:=tQ X.K aj WF te) a.calm a.nd (afg a.toAmb) (ot.oi a.toAmb i1) (blkOk_by (by rw[a.hN,a.hs];exact b1)) (fun s H C cl fp=>uP (a.toAmb.inn _ s H C cl fp) i2) (fun s H C cl fp=>ot.oe (a.toAmb.inn _ s H C cl fp) i3) (qR b3)) (fun σ H Q z=>alM hk.hw (pC b2) σ H Q z) Hq
 ·obtain⟨fo,h1,h⟩:=aqD.mp h
  obtain⟨fe,h2,h⟩:=aqD.mp h
  cases h
  exact agP hk.co hk.fk (ot.ow a.toAmb h1) (aer ot a.toAmb h2).1 Hq
 ·obtain⟨hc,h⟩:=aV.mp h
  obtain⟨fo,h1,h⟩:=aqD.mp h
  obtain⟨fe,h2,h⟩:=aqD.mp h
  cases h
  exact ahP hk.co hk.fk (ot.ow a.toAmb h1) (os.og a h2) Hq
def Zr(n:Str):List Expr->Option (List Str)
 |[]=>some []
 |.Attribute (.Name m _) f _::es=>gd (m==n) ((Zr n es).bind fun fs=>some (f::fs))
 |_=>none
def ab9(nm:Option Str):Expr->Option Di
 |.Constant (.str x) _ _=>some (.con (.str x))
 |.Constant .none _ _=>some (.con .none)
 |.Tuple [] _ _=>some (.con (.tuple []))
 |.Attribute (.Name m _) f _=>nm.bind fun n=>gd (m==n) (some (.fld f))
 |.Tuple es _ _=>nm.bind fun n=>(Zr n es).bind fun fs=>some (.flds fs)
 |_=>none
def Di.fs:Di->List Str
 |.con _=>[]
 |.fld f=>[f]
 |.flds fs=>fs
def ab5(c:Tc)(nm:Option Str):List Stmt->Option (List (Nat×Di))
 |[]=>some []
 |.Assign [.Name x _] e _::r=>(vm c x).bind fun j=>(ab9 nm e).bind fun se=>(ab5 c nm r).bind fun st=>some ((j,se)::st)
 |_=>none
def Sh(c:Tc):Option Str->Option (Option Nat)
 |none=>some none
 |some n=>(Lf c n).bind fun i=>match c.sc.names.lookup n with
  |some .local=>some (some i)
  |_=>none
def ajJ(c:Tc):ExceptHandler->Option Hd
 |.ExceptHandler (some (.Name y _)) nm (s0::su) _=>(c.hs.xm.lookup y).bind fun tab=>(Sh c nm).bind fun i=>(ab5 c nm (s0::su)).bind fun st=>
  (match c.G.lookup y with
  |some .exc=>some true
  |some (.exi _)=>some true
  |_=>none).bind fun _=>
  gd (DR c.sc y&&(!CW y&&(st.all (fun p=>match i with
   |some j=>!(j==p.1)
   |none=>true)&&st.all (fun p=>p.2.fs.all (fun f=>((c.hs.xf.lookup y).getD []).contains f)&&decide (p.2.fs.length<=100))))) (some ⟨y,fun x=>tab.lookup x,i,st⟩)
 |_=>none
def WY(c:Tc):List ExceptHandler->Option (List Hd)
 |[]=>some []
 |h::hs=>(ajJ c h).bind fun d=>(WY c hs).bind fun ds=>some (d::ds)
theorem aa9{y n:Str}{C:Addr}{a:Addr}{oe:Obj}{cls:Value}{d:Option Addr}{pn:List (Addr×Obj)}{j:Nat}{fl:List Str}(hC:aj y=some C)(T:XfC X.K C)(hno:∀f∈fl,PySem.W.findIn X.K (.ref C) f=some none)(hz:Zc cls d oe)(hf:∃vs,oe.data=.fields vs)(hN:X.N[j]?=some n)(hv:Vis X.env.scope n)(hd:(n==("__debug__" : Str))=false)(hcd:(n==("__classdict__" : Str))=false) :
  ∀{es:List Expr} {fs:List Str},Zr n es=some fs->(∀f∈fs,f∈fl)->PA (X.suite a ((a,oe)::pn)) es (tUA X.K aj a cls d (some j) fun x=>Qy y x fs)
 |[],fs,h,_=>by
  cases h
  exact ac3
 |.Attribute (.Name m p) f p2::es,fs,h,hs=>by
  rw[Zr]at h
  obtain⟨hm,h⟩:=aV.mp h
  obtain⟨fr,h1,h⟩:=aqD.mp h
  cases h
  cases eq_of_beq hm
  exact agU (adF hC T (hno f (hs f aqK)) hz hf hN hv hd hcd) (aa9 hC T hno hz hf hN hv hd hcd h1 fun f hf=>hs f (aqJ _ hf)) rfl
theorem agY{y:Str}{nm:Option Str}{i:Option Nat}{a:Addr}{oe:Obj}{cls:Value}{d:Option Addr}{pn:List (Addr×Obj)}{e:Expr}{se:Di}(am:Amb aj c X W k)(hi:Sh c nm=some i)(hy:(c.hs.xf.lookup y).getD []=fl)(hfl:∀f∈se.fs,f∈fl)(hl:se.fs.length<=100)(hz:Zc cls d oe)(hf:∃vs,oe.data=.fields vs)(h:ab9 nm e=some se) :
  PE (X.suite a ((a,oe)::pn)) e (tU X.K aj a cls d i fun x=>Zj y x se):=by
 have fld:∀n j,nm=some n->i=some j->X.N[j]?=some n/\Vis X.env.scope n/\(n==("__debug__" : Str))=false/\(n==("__classdict__" : Str))=false:=fun n j e1 e2=>by
  subst e1 e2
  unfold Sh at hi
  obtain⟨j',h1,hi⟩:=aqD.mp hi
  split at hi
  ·cases hi
   exact zq am h1
  ·cases hi
 have hsome:∀n,nm=some n->∃j,i=some j:=fun n e1=>by
  subst e1
  unfold Sh at hi
  obtain⟨j',h1,hi⟩:=aqD.mp hi
  split at hi
  ·cases hi
   exact⟨_,rfl⟩
  ·cases hi
 have hxf:fl≠[]->∃C,aj y=some C/\XfC X.K C/\∀f∈fl,PySem.W.findIn X.K (.ref C) f=some none:=fun ne=>by
  cases hx:c.hs.xf.lookup y with
  |none=>
   rw[hx]at hy
   exact absurd hy.symm ne
  |some l=>
   rw[hx]at hy
   cases hy
   exact am.hk.xf y _ hx
 unfold ab9 at h
 split at h
 ·cases h
  exact adS pe_str fun σ H Q ⟨g,ρ,M,x,z,I,e,kk⟩=>by
   cases e
   exact kk _ H (Ex.refl H) (.str _)
 ·cases h
  exact adS pe_non fun σ H Q ⟨g,ρ,M,x,z,I,e,kk⟩=>by
   cases e
   exact kk _ H (Ex.refl H) .non
 ·cases h
  exact PE.weak (adU (aj:=aj) (cls:=cls) (d:=d) (i:=i) ac3 fun x zs e=>by cases e;exact arn _) fun σ H Q z=>z
 ·obtain⟨n,e1,h⟩:=aqD.mp h
  obtain⟨hm,h⟩:=aV.mp h
  cases h
  cases eq_of_beq hm
  obtain⟨j,rfl⟩:=hsome _ e1
  obtain⟨f1,f2,f3,f4⟩:=fld _ j e1 rfl
  obtain⟨C,c1,c2,c3⟩:=hxf (List.ne_nil_of_mem (hfl _ (aqL.mpr rfl)))
  exact adF c1 c2 (c3 _ (hfl _ (aqL.mpr rfl))) hz hf f1 f2 f3 f4
 ·next es _ _ hne=>
  obtain⟨n,e1,h⟩:=aqD.mp h
  obtain⟨fs,e2,h⟩:=aqD.mp h
  cases h
  obtain⟨j,rfl⟩:=hsome _ e1
  obtain⟨f1,f2,f3,f4⟩:=fld _ j e1 rfl
  have hfs:fs≠[]:=fun z=>by
   subst z
   match es,e2 with
   |[],_=>exact hne rfl
   |.Attribute (.Name m _) f _::es,e2=>
    rw[Zr]at e2
    obtain⟨_,e2⟩:=aV.mp e2
    obtain⟨_,_,e2⟩:=aqD.mp e2
    cases e2
  have hfn:fl≠[]:=by
   cases fs with
   |nil=>exact absurd rfl hfs
   |cons f r=>exact List.ne_nil_of_mem (hfl f aqK)
  obtain⟨C,c1,c2,c3⟩:=hxf hfn
  exact adU (aa9 c1 c2 c3 hz hf f1 f2 f3 f4 e2 hfl) fun x zs e=>by
   have:=VG e
   have hl:fs.length<=100:=hl
   omega
 ·cases h
theorem Us{y:Str}{nm:Option Str}{i:Option Nat}{a:Addr}{oe:Obj}{cls:Value}{d:Option Addr}{pn:List (Addr×Obj)}{fl:List Str}(am:Amb aj c X W k)(hi:Sh c nm=some i)(hy:(c.hs.xf.lookup y).getD []=fl)(hz:Zc cls d oe)(hf:∃vs,oe.data=.fields vs) :
  ∀{ss:List Stmt} {st:List (Nat×Di)},ab5 c nm ss=some st->(∀p∈st,(∀f∈p.2.fs,f∈fl)/\p.2.fs.length<=100)->PSs (X.suite a ((a,oe)::pn)) ss (tSu X.K aj a cls d i y st)
 |[],st,h,_=>by
  cases h
  exact PSs.weak pss_nil fun D σ H z=>ajU z
 |.Assign [.Name x p] e p2::r,st,h,hs=>by
  rw[ab5]at h
  obtain⟨j,h1,h⟩:=aqD.mp h
  obtain⟨se,h2,h⟩:=aqD.mp h
  obtain⟨st',h3,h⟩:=aqD.mp h
  cases h
  obtain⟨s1,s2,s3⟩:=mD am h1
  obtain⟨u1,u2⟩:=hs (j,se) aqK
  have he:=agY (a:=a) (pn:=pn) am hi hy u1 u2 hz hf h2
  have hne:Ek e=false/\swappedStores [.Name x p] e X.env=pure none:=by
   unfold ab9 at h2
   split at h2 <;> first | exact⟨rfl,rfl⟩ | cases h2
  refine PSs.weak (pss_cons (ps_asg he (pg_name (X:=X.suite a ((a,oe)::pn)) am.nd s1 s2 s3) (Bl hne.1) hne.2 (by with_unfolding_all rfl)) (Us am hi hy hz hf h3 fun p hp=>hs p (aqJ _ hp))) fun D σ H z=>?_
  exact ajH z fun σ' H' z'=>z'
def amN(aj:aO)(K:aqE)(h:Hd)(D:Addr):Cl:=⟨.ref D,h.nm,fun a cls d=>tSu K aj a cls d h.nm h.y h.st⟩
theorem YC(am:Amb aj c X W k):∀{hds:List ExceptHandler} {hs:List Hd},WY c hds=some hs->∃ls,Az X hds ls/\Fd X.K aj hs ls
 |[],hs,h=>by
  cases h
  exact⟨[],.nil,.nil⟩
 |h0::hds,hs,h=>by
  rw[WY]at h
  obtain⟨d,h1,h⟩:=aqD.mp h
  obtain⟨ds,h2,h⟩:=aqD.mp h
  cases h
  obtain⟨ls,i1,i2⟩:=YC am h2
  unfold ajJ at h1
  split at h1
  ·next y np nm s0 su cp=>
   obtain⟨tab,j1,h1⟩:=aqD.mp h1
   obtain⟨i,j2,h1⟩:=aqD.mp h1
   obtain⟨st,j3,h1⟩:=aqD.mp h1
   obtain⟨_,j4,h1⟩:=aqD.mp h1
   obtain⟨hb,h1⟩:=aV.mp h1
   cases h1
   simp only[aqF,aqY]at hb
   obtain⟨b1,b2,b3,b4⟩:=hb
   obtain⟨⟨D,hD⟩,hx⟩:=am.hk.xm y tab j1
   have hm:X.mg y=some (.ref D):=by
    split at j4
    ·next hl=>
     obtain⟨C,g1,g2,_⟩:=am.gl y _ hl
     rw[hD]at g2
     cases g2
     exact g1
    ·next hl=>
     obtain⟨C,fI,fd,ps,g1,g2,_⟩:=am.gl y _ hl
     rw[hD]at g2
     cases g2
     exact g1
    ·cases j4
   have hnames:Names X y (.ref D):=⟨pG am b1,(oY b2).1,.inl hm⟩
   have hst:∀p∈st,(∀f∈p.2.fs,f∈(c.hs.xf.lookup y).getD [])/\p.2.fs.length<=100:=fun p hp=>by
    have:=aqZ.mp b4 p hp
    rw[aqF,decide_eq_true_eq]at this
    exact⟨fun f hf=>by simpa using aqZ.mp this.1 f hf,this.2⟩
   have hnj:∀p∈st,i≠some p.1:=fun p hp z=>by
    subst z
    have:=aqZ.mp b3 p hp
    simp at this
   refine⟨amN aj X.K ⟨y,fun x=>tab.lookup x,i,st⟩ D::ls,?_,.cons ⟨⟨D,hD,rfl⟩,hx,rfl,rfl,hnj⟩ i2⟩
   cases nm with
   |none=>
    cases j2
    exact .one hnames rfl (fun a oe cls d pn hz hf=>Us am rfl rfl hz hf j3 hst) i1
   |some n=>
    have j2':=j2
    unfold Sh at j2
    obtain⟨i',s1,j2⟩:=aqD.mp j2
    split at j2
    ·next hloc=>
     cases j2
     refine .as hnames rfl (zq am s1).1 ?_ (fun a oe cls d pn hz hf=>Us am j2' rfl hz hf j3 hst) i1
     unfold PySem.Env.kindOf
     rw[am.hs]
     exact hloc
    ·cases j2
  ·cases h1
theorem qU.tr(a:qU aj c X W k){W':WX}{pn:List (Addr×Obj)}{xe:Value->Shared->Prop}(t:Takes (X.tr pn xe) W')(p:PassesOwn (model X.prog X.w) X.A X.env xe):qU aj c (X.tr pn xe) W' k where
 hN:=a.hN
 hs:=a.hs
 calm:=a.calm
 nd:=a.nd
 tk:=t
 rm:=a.rm
 gl:=a.gl
 bl:=a.bl
 fn:=a.fn
 hk:=a.hk
 ps:=p
 st:=a.st
 fr:=a.fr
 kf:=a.kf
def xS(q:Bool)(t:Tr)(s:Ts)(c:Tc):Stmt->Option SF
 |.Raise (some (.Call (.Name x _) [] [] _)) none _=>(match c.G.lookup x with
  |some .exc=>gd (DR c.sc x&&!CW x) (some (dZ x))
  |_=>none)
 |.Raise (some (.Call (.Name x _) (e::es) [] _)) none _=>(match c.G.lookup x with
  |some (.exi fs)=>(Ep t c (e::es)).bind fun as=>gd (DR c.sc x&&(!CW x&&(decide ((e::es).length=fs.length)&&decide (fs.length<=1000)))) (some (Bo x fs as))
  |_=>none)
 |.Try body (h::hds) [] [] _=>(s.B c body).bind fun f=>(WY c (h::hds)).bind fun hs=>some (Ua f hs)
 |.Pass _=>some aR
 |.Expr (.Call (.Attribute (.Attribute o f p1) m apos) [e] [] pos) epos=>(match q with
  |true=>(s.G c (.Call (.Attribute (.Attribute o f p1) m apos) [e] [] pos)).bind fun f=>some (cH f)
  |false=>match m=="append" with
   |true=>gd (baseOk o&&(nst e&&(apos.endLine==pos.line))) ((t.W c o).bind fun fo=>(s.G c e).bind fun fe=>some (Dk f fo fe))
   |false=>(s.G c (.Call (.Attribute (.Attribute o f p1) m apos) [e] [] pos)).bind fun f=>some (cH f))
 |.Expr e _=>gd (!Ek e) ((s.G c e).bind fun f=>some (cH f))
 |.Assign [.Name x p] (.ListComp elt [⟨tg,iter,ifs,0⟩,⟨tg1,iter1,ifs1,0⟩] scope cpos) _=>(vm c x).bind fun j=>
  gd (swB c.sc (.ListComp elt [⟨tg,iter,ifs,0⟩,⟨tg1,iter1,ifs1,0⟩] scope cpos) scope x p&&!c.ml.contains x) ((Qm t c elt tg iter ifs tg1 iter1 ifs1 scope).bind fun f=>some (aW (aF j) (gOf f)))
 |.Assign [.Attribute o f _] e _=>(match q with
  |true=>none
  |false=>ae6 t s c o f e)
 |.Assign [.Subscript (.Attribute o f _) i _] e _=>(match q with
  |true=>none
  |false=>gd (baseOk o&&(!X3 i&&!Ek e)) ((t.W c o).bind fun fo=>(t.E c i).bind fun fi=>(t.E c e).bind fun fe=>match c.hs.df.lookup f with
   |some _=>some (Mq f fo fi fe)
   |none=>some (Ql f fo fi fe)))
 |.AugAssign (.Attribute o f _) .Add e _=>(match q with
  |true=>none
  |false=>(t.W c o).bind fun fo=>(t.E c e).bind fun fe=>some (PL c.hs.ft f fo fe))
 |.Delete [.Subscript (.Attribute o f _) i _] _=>(match q with
  |true=>none
  |false=>gd (baseOk o) ((t.W c o).bind fun fo=>(t.E c i).bind fun fi=>some (Ln f fo fi)))
 |_=>none
theorem ald(o:t.Ok)(os:s.Ok q)(a:qU aj c X W k){st:Stmt}{f:SF}(h:xS q t s c st=some f):SE aj X W q st f:=by
 have hk:=a.hk
 unfold xS at h
 split at h
 ·split at h
  ·next hl=>
   obtain⟨hb,h⟩:=aV.mp h
   cases h
   simp only[aqF,aqY]at hb
   exact afx a.calm a.tk (pG a.toAmb hb.1) (oY hb.2).1 (a.gl _ _ hl)
  ·cases h
 ·split at h
  ·next fs hl=>
   obtain⟨as,h1,h⟩:=aqD.mp h
   obtain⟨hb,h⟩:=aV.mp h
   cases h
   simp only[aqF,aqY,decide_eq_true_eq]at hb
   obtain⟨b1,b2,b3,b4⟩:=hb
   obtain⟨i1,i2,i3⟩:=rW o a.toAmb h1
   exact adB a.calm a.tk a.rm (pG a.toAmb b1) (oY b2).1 (a.gl _ _ hl) i1 i2 (fun M ρ ds z=>by rw[i3 M ρ ds z];exact b3) b4
  ·cases h
 ·obtain⟨f1,h1,h⟩:=aqD.mp h
  obtain⟨hs,h2,h⟩:=aqD.mp h
  cases h
  obtain⟨ls,i1,i2⟩:=YC a.toAmb h2
  exact aja a.st a.fr a.nd a.tk (fun W' pn xe t p=>os.ob (a.tr t p) h1) i1 i2
 ·cases h
  exact PS.weak ps_pass fun D σ H ⟨g,ρ,M,I,z⟩=>z σ H g .refl I
 ·split at h
  ·obtain⟨f1,h1,h⟩:=aqD.mp h
   cases h
   exact Sv (os.og a h1) (Fo rfl)
  ·split at h
   ·next hm=>
    obtain⟨hb,h⟩:=aV.mp h
    obtain⟨fo,h1,h⟩:=aqD.mp h
    obtain⟨fe,h2,h⟩:=aqD.mp h
    cases h
    simp only[aqF]at hb
    cases eq_of_beq hm
    exact ahi hk.co (o.ow a.toAmb h1) hb.1 (os.og a h2) hb.2.1 hb.2.2
   ·obtain⟨f1,h1,h⟩:=aqD.mp h
    cases h
    exact Sv (os.og a h1) (Fo rfl)
 ·obtain⟨hb,h⟩:=aV.mp h
  obtain⟨f1,h1,h⟩:=aqD.mp h
  cases h
  exact Sv (os.og a h1) (Fo (by simpa using hb))
 ·obtain⟨j,hj,h⟩:=aqD.mp h
  obtain⟨hsw,h⟩:=aV.mp h
  rw[aqF]at hsw
  obtain⟨f1,h1,h⟩:=aqD.mp h
  cases h
  obtain⟨s1,s2,s3⟩:=mD a.toAmb hj
  have hsw:=hsw.1
  rw[←a.hs]at hsw
  have l1:=(Qh (l:=0) a.kf hsw).1
  have l2:=fun l=>(Qh (l:=l) a.kf hsw).2
  clear h
  unfold Qm at h1
  obtain⟨it,g1,h⟩:=aqD.mp h1
  obtain⟨⟨js,tf⟩,h2,h⟩:=aqD.mp h
  obtain⟨tt,h3,h⟩:=aqD.mp h
  obtain⟨it1,h4,h⟩:=aqD.mp h
  obtain⟨⟨js1,tf1⟩,h5,h⟩:=aqD.mp h
  obtain⟨tt1,h6,h⟩:=aqD.mp h
  obtain⟨te,h7,h⟩:=aqD.mp h
  obtain⟨hb,h⟩:=aV.mp h
  cases h
  simp only[aqF,aqY]at hb
  obtain⟨b1,b2,b3,b4,b5,b6⟩:=hb
  have am:=a.toAmb
  exact agy a.calm a.nd s1 l1 (l2 _) (o.oi am g1) (by rw[a.hN,a.hs];exact b1) (pC b2) (pC b3) (pC b4) (fun s H C cl fp=>uP (am.inn _ s H C cl fp) h2) (fun s H C cl fp=>vU o (am.inn _ s H C cl fp) h3) (fun s H C cl fp=>o.oi (am.inn _ s H C cl fp) h4) (fun s H C cl fp=>uP (am.inn _ s H C cl fp) h5) (fun s H C cl fp=>vU o (am.inn _ s H C cl fp) h6) (fun s H C cl fp=>o.oe (am.inn _ s H C cl fp) h7) (qR b5) (fun env=>qR b6)
 ·split at h
  ·cases h
  ·exact agt o os a h
 ·split at h
  ·cases h
  ·obtain⟨hb,h⟩:=aV.mp h
   obtain⟨fo,h1,h⟩:=aqD.mp h
   obtain⟨fi,h2,h⟩:=aqD.mp h
   obtain⟨fe,h3,h⟩:=aqD.mp h
   simp only[aqF,aqY]at hb
   obtain⟨b1,b2,b3⟩:=hb
   split at h
   ·cases h
    exact agA hk.co hk.hw (afg a.toAmb) (o.ow a.toAmb h1) b1 (o.oe a.toAmb h2) (o.oe a.toAmb h3) aeS
   ·cases h
    exact ahA hk.co (o.ow a.toAmb h1) b1 (o.oe a.toAmb h3) (o.oe a.toAmb h2) (aeW b2) (Bl b3) (by with_unfolding_all rfl)
 ·split at h
  ·cases h
  ·obtain⟨fo,h1,h⟩:=aqD.mp h
   obtain⟨fe,h2,h⟩:=aqD.mp h
   cases h
   exact ahn hk.co hk.fk (o.ow a.toAmb h1) (o.oe a.toAmb h2)
 ·split at h
  ·cases h
  ·obtain⟨hb,h⟩:=aV.mp h
   obtain⟨fo,h1,h⟩:=aqD.mp h
   obtain⟨fi,h2,h⟩:=aqD.mp h
   cases h
   exact ahO hk.co hk.hw (afg a.toAmb) (o.ow a.toAmb h1) hb (o.oe a.toAmb h2)
 ·cases h
end
def tr0:Tr:=⟨fun _ _=>none,fun _ _=>none,fun _ _=>none,fun _ _ _ _=>none⟩
def ako(t:Tr):Tr:=⟨xtE t,xtW t,xtT t,xtI t⟩
def tr:Nat->Tr
 |0=>tr0
 |n+1=>ako (tr n)
theorem yN:∀n,(tr n).Ok
 |0=>⟨fun _=>(by intro _ _ h;cases h),fun _=>(by intro _ _ h;cases h),fun _=>(by intro _ _ h;cases h),fun _=>(by intros;rename_i h;cases h)⟩
 |n+1=>⟨fun a=>(by intro _ _ h;exact(vJ h).elim (ak7 (yN n) a) (ajk (yN n) a)),fun a=>(by intro _ _ h;exact(vJ h).elim (alW (yN n) a) (aiU (yN n) a)),fun a=>(by intro _ _ h;exact(vJ h).elim (akY (yN n) a) (ais (yN n) a)),fun a=>(by intro _ _ _ _ h;exact(vJ h).elim (alQ (yN n) a) (ajX (yN n) a))⟩
def ts0:Ts:=⟨fun _ _=>none,fun _ _=>none,fun _ _=>none,fun _ _=>none⟩
def ldG(q:Bool)(t:Tr)(s:Ts)(c:Tc)(e:Expr):Option GF:=match q with
 |true=>none
 |false=>xG t s c e
def ldH(q:Bool)(s:Ts)(c:Tc)(e:Expr):Option GT:=match q with
 |true=>none
 |false=>xH s c e
def aiX(q:Bool)(t:Tr)(s:Ts):Ts:=⟨fun c e=>els ((t.E c e).bind fun f=>some (gOf f)) (ldG q t s c e),fun c e=>els ((t.T c e).bind fun f=>some (aeH f)) (ldH q s c e),fun c e=>els (stS t s c e) (xS q t s c e),acg s⟩
def ts(q:Bool)(t:Tr):Nat->Ts
 |0=>ts0
 |n+1=>aiX q t (ts q t n)
theorem Hr{t:Tr}(o:t.Ok)(q:Bool):∀n,(ts q t n).Ok q
 |0=>⟨fun _=>(by intro _ _ h;cases h),fun _=>(by intro _ _ h;cases h),fun _=>(by intro _ _ h;cases h),fun _=>(by intros;rename_i h;cases h)⟩
 |n+1=>⟨fun a=>by
   intro _ _ h
   rcases vJ h with h|h
   ·obtain⟨f,h1,h⟩:=aqD.mp h
    cases h
    exact afU (o.oe a.toAmb h1)
   ·cases q with
    |true=>cases h
    |false=>exact alI o (Hr o false n) a h,fun a=>by
   intro _ _ h
   rcases vJ h with h|h
   ·obtain⟨f,h1,h⟩:=aqD.mp h
    cases h
    exact alk (o.ot a.toAmb h1)
   ·cases q with
    |true=>cases h
    |false=>exact ak1 (Hr o false n) a h,fun a=>by
   intro _ _ h
   rcases vJ h with h|h
   ·exact aiY o (Hr o q n) a h
   ·exact ald o (Hr o q n) a h,fun a=>by
   intro _ _ h
   exact aeP (Hr o q n) a h⟩
def rd(c:Tc)(b:List Stmt):Option SF:=(ts true (tr 40) 60).B c b
def rdG(c:Tc)(b:List Stmt):Option SF:=(ts false (tr 40) 60).B c b
def Cq(P:Program)(w:World)(K:aqE)(mg:Str->Option Value)(base:Heap)(aj:aO)(k:Nat):List (Str×GV)->Prop
 |[]=>True
 |(x,v)::r=>bf P w K mg base aj k x v/\Cq P w K mg base aj k r
def BJ(mg:Str->Option Value):List Str->Prop
 |[]=>True
 |x::r=>mg x=none/\BJ mg r
section
variable{P:Program}{w:World}{K:aqE}{mg:Str->Option Value}{base:Heap}{aj:aO}{k:Nat}
theorem Cq.get:∀{G:List (Str×GV)},Cq P w K mg base aj k G->∀x v,G.lookup x=some v->bf P w K mg base aj k x v
 |[],_,x,v,h=>nomatch h
 |(y,u)::r,g,x,v,h=>by
  rw[aq6]at h
  split at h
  ·next e=>
   cases h
   rw[eq_of_beq e]
   exact g.1
  ·exact g.2.get x v h
theorem BJ.get:∀{B:List Str},BJ mg B->∀x,x∈B->mg x=none
 |[],_,x,h=>nomatch h
 |y::r,g,x,h=>by
  rcases aqV.mp h with rfl|h
  ·exact g.1
  ·exact g.2.get x h
theorem acF{qual:Str}{st:Stmt}{f:Addr}{N ps ml B:List Str}{G:List (Str×GV)}{Ms:Hs}(S:FnScope N ps (defScope st))(g:Cq P w K mg base aj k G)(b:BJ mg B)(hh:R5 P w K mg base aj k Ms)
  (cdv:Value) (A:Around) (outer:List PySem.Env) (s:Shared) (H:Hp) (E:XK) (hr:Room k (A.deeper (envOfC qual (defScope st) s.heap.objs.size f cdv))) :
  qU aj ⟨N,defScope st,G,B,Ms,ml,true⟩ (cxOf (L2.CX P w) P w K mg base N qual (defScope st) f cdv A outer s H E) (aeK E) k where
 hN:=rfl
 hs:=rfl
 calm:=rfl
 nd:=S.nd
 tk:=takes_of rfl rfl rfl rfl
 rm:=hr
 gl:=g.get
 bl:=b.get
 fn:=fun _ _=>rfl
 hk:=hh
 ps:=passes_of rfl
 st:=rfl
 fr:=rfl
 kf:=S.kind
theorem Yc{x qual:Str}{st:Stmt}{f:Addr}{fd:FuncData}{N ps ml B:List Str}{G:List (Str×GV)}{Ms:Hs}{body:SF}(F:Fun K x qual st f fd)(S:FnScope N ps (defScope st))(g:Cq P w K mg base aj k G)(b:BJ mg B)(hh:R5 P w K mg base aj k Ms)
  (h:rd ⟨N,defScope st,G,B,Ms,ml,true⟩ (defBody st)=some body):FnOk P w K mg base (L2.CX P w) (k+1) f fd ps (QJ K aj ps.length (mQ N.length body)):=
 amC F S fun cdv A outer s H E hr=>(Hr (yN 40) true 60).ob (acF S g b hh cdv A outer s H E hr) h
theorem PB{x qual:Str}{st:Stmt}{f:Addr}{fd:FuncData}{N ps ml B:List Str}{G:List (Str×GV)}{Ms:Hs}{body:SF}(F:Fun K x qual st f fd)(S:FnScope N ps (defScope st))(g:Cq P w K mg base aj k G)(b:BJ mg B)(hh:R5 P w K mg base aj k Ms)
  (h:rdG ⟨N,defScope st,G,B,Ms,ml,true⟩ (defBody st)=some body):FnOk P w K mg base (L2.CX P w) (k+1) f fd ps (Gi K aj ps.length (mG N.length body)):=
 anb F S fun cdv A outer s H E hr=>(Hr (yN 40) false 60).ob (acF S g b hh cdv A outer s H E hr) h
theorem aiV{f:Addr}{fd:FuncData}{ps:List Str}{j:Nat}:FnOk P w K mg base (L2.CX P w) j f fd ps (QJ K aj ps.length fun _ _=>.bad):=
 ⟨fun vs H Q E h=>h.1,fun A outer s H args us vs Q E _ _ _ _ h=>by
  obtain⟨_,g,M,ds,_,_,_,z⟩:=h
  exact False.elim z⟩
theorem aft{x:Str}{f:Addr}{fd:FuncData}{ps:List Str}{j:Nat}{m:Mo->List Dat->Out Dat}(hj:j<=k)(hg:mg x=some (.ref f))(hk:PySem.W.keepIn K (.ref f)=true)(hB:Binds K fd ps [])(F:FnOk P w K mg base (L2.CX P w) j f fd ps (QJ K aj ps.length m)):bf P w K mg base aj k x (.fq ps.length m):=
 ⟨f,hg,hk,fd,ps,j,hj,rfl,hB,F⟩
theorem Ko{x:Str}{i:Int}{t:Tok}(h:mg x=some (.int i t)):bf P w K mg base aj k x (.con (.int i)):=⟨.int i,_,h,⟨t,rfl⟩,fun _ _=>.int i⟩
theorem Vc{g:Gh}{H:Hp}:∀{vs:List V} {ds:List Dat},(vs.zip ds).all (fun p=>match p with
  |(.int i,.int j)=>decide (i=j)
  |(.str x,.str y)=>decide (x=y)
  |_=>false)=true->vs.length=ds.length->aH K g H vs ds
 |[],[],_,_=>.nil
 |[],_::_,_,h=>nomatch h
 |_::_,[],_,h=>nomatch h
 |v::vs,d::ds,h,hl=>by
  rw[arF,arb,aqF]at h
  refine .cons ?_ (Vc h.2 (arv hl))
  have h1:=h.1
  split at h1
  ·next e=>cases e;cases of_decide_eq_true h1;exact .int _
  ·next e=>cases e;cases of_decide_eq_true h1;exact .str _
  ·cases h1
theorem adx{x:Str}{a:Addr}{vs:List V}{ds:List Dat}(h:mg x=some (.ref a))(q:∀H:Hp,SqT K H a vs)(hf:(vs.zip ds).all (fun p=>match p with
  |(.int i,.int j)=>decide (i=j)
  |(.str x,.str y)=>decide (x=y)
  |_=>false)=true) (hl:vs.length=ds.length):bf P w K mg base aj k x (.con (.tuple ds)):=⟨.ref a,_,h,rfl,fun _ H=>.tup (q H) (Vc hf hl)⟩
end
open PySem PySem.Spec PyProof.Rows L2
section
variable{fa:List He.Fa}{fn:List He.DefD}{tb:List He.Tab}{ex:aqE->Bool}{w:World}{K:aqE}
theorem LR.oR(c:LR fa fn tb ex w K)(i:Nat){f:He.Fa}(h:fa[i]?=some f:=by rfl):f.ok K=true:=c.t.d.fact i h
theorem LR.Vi(c:LR fa fn tb ex w K)(i:Nat){d:He.DefD}(h:fn[i]?=some d:=by rfl):∃fd,FunD K d.name d.qual d.params d.body d.scope (d.dvs K) (d.kws K) (He.fAd K d.at_) fd:=c.t.d.def_ i h
theorem Ds{x qual:Str}{st:Stmt}{f:Addr}{fd:FuncData}(F:FunD K x qual (defArgs st) (defBody st) (defScope st) [] [] f fd):L2.Fun K x qual st f fd:=by
 obtain⟨oc,od,dV,kV,doc,pm,an,cdv,ct,osl,e,l,c,hd,_⟩:=F.ex
 rcases hd with⟨_,z⟩|⟨z,_⟩
 ·cases z
  exact⟨⟨oc,od,kV,doc,pm,an,cdv,ct,osl,e,l,c⟩,F.kp⟩
 ·exact absurd rfl z
end
def g0:Gh:=⟨[],fun _=>none,fun _=>False,fun _=>False⟩
theorem ajM(a:Addr):¬g0.A a:=fun z=>by
 rcases z with(z|z)|z|z
 ·cases z
 ·exact z rfl
 ·exact z
 ·exact z
theorem alY{H:Hp}:Kd g0 H:=⟨fun a z=>absurd z (ajM a),fun a z=>False.elim z,fun a z=>False.elim z⟩
theorem ah9{K:aqE}{aj:aO}{H:Hp}(nc:aj ""=none):fU K aj g0 H []:=⟨rfl,fun h k a e=>(by cases h <;> cases e),fun h a i e=>(by cases h <;> cases e),fun h i e=>(by cases h <;> cases e),fun h i e=>(by cases h <;> cases e),fun h a i e=>(by cases h <;> cases e),fun h i e=>(by cases h <;> cases e),nc⟩
theorem Vh{K:aqE}{g:Gh}{H:Hp}:∀ns:List Int,aH K g H (ns.map V.int) (ns.map PyData.int)
 |[]=>.nil
 |n::ns=>.cons (.int n) (Vh ns)
theorem ajQ{K:aqE}{H:Hp}{a:Addr}{ns:List Int}(hS:SqL K H a (ns.map V.int)):aH K g0 H [.ref a] [.list (ns.map PyData.int)]:=by
 refine .cons (.lst ?_ (Vh ns)) .nil
 rcases hS with h|h
 ·exact .inl ⟨h,ajM a⟩
 ·exact .inr h
theorem alw{K:aqE}{aj:aO}(nc:aj ""=none){m:Mo->List Dat->aZ Dat}{H:Hp}{a:Addr}{ns:List Int}{M:Mo}(hS:SqL K H a (ns.map V.int))(h:m [] [.list (ns.map PyData.int)]=.ok (.bool true) M):Gi K aj 1 m [.ref a] H (fun v _=>v=.bl true) fun _ _ _=>False:=
 ⟨rfl,g0,[],[.list (ns.map PyData.int)],alY,ah9 nc,ajQ hS,by
  rw[h]
  exact fun v H' g' _ _ _ r=>by cases r;rfl⟩
section
variable{K:aqE}{h:Heap}{mg:Str->Option Value}{w:World}
def nM(w:World)(K:aqE)(xs:List Str)(ft:Ft):aO:=⟨fun x=>match xs.contains x with
 |true=>some (He.ga K x)
 |false=>none,fun c=>(ft.lookup c).getD [],w⟩
theorem Oa{xs:List Str}{ft:Ft}{x:Str}{C:Addr}(e:nM w K xs ft x=some C):C=He.ga K x:=by
 have e:(match xs.contains x with
  |true=>some (He.ga K x)
  |false=>none)=some C:=e
 split at e
 ·exact(aq0 e).symm
 ·cases e
theorem BR{xs:List Str}{ft:Ft}{x:Str}(e:xs.contains x=true):nM w K xs ft x=some (He.ga K x):=by
 show(match xs.contains x with
  |true=>some (He.ga K x)
  |false=>none)=_
 rw[e]
theorem Xd{ft:Ft}(hb:KY K ft=true){c:Str}{fs:List Str}(hl:ft.lookup c=some fs):Cls K (He.ga K c)/\∀f∈fs,NoAttr K (He.ga K c) f:=by
 obtain⟨h1,h2⟩:=He.ba (aqZ.mp hb _ (pW hl))
 exact⟨He.cls_ok h1,fun f hf=>He.noat_ok (aqZ.mp h2 f hf)⟩
theorem adp{xs:List Str}{ft:Ft}(hb:KY K ft=true):jy K (nM w K xs ft):=fun c C f e hf=>by
 have e:=Oa e
 subst e
 have hf:f∈(ft.lookup c).getD []:=hf
 cases hl:ft.lookup c with
 |none=>rw[hl]at hf;cases hf
 |some fs=>
  rw[hl]at hf
  obtain⟨h1,h2⟩:=Xd hb hl
  exact⟨h1,h2 f hf⟩
theorem aeI{xs:List Str}{ft:Ft}:Ky ft (nM w K xs ft):=fun c f e=>by
 unfold Ft.has at e
 show f∈(ft.lookup c).getD []
 split at e
 ·next fs hl=>
  rw[hl]
  simpa using e
 ·cases e
def xmN(xs:List Str)(xm:List (Str×List (Str×Bool))):Bool:=xm.all fun p=>xs.contains p.1
theorem akV{xs:List Str}{ft:Ft}{xm:List (Str×List (Str×Bool))}(hb:xmB K xm=true)(hn:xmN xs xm=true)(y:Str)(tab:List (Str×Bool))(hl:xm.lookup y=some tab):(∃D,nM w K xs ft y=some D)/\abA K (nM w K xs ft) y fun x=>tab.lookup x:=by
 refine⟨⟨_,BR (aqZ.mp hn _ (pW hl))⟩,fun x b C e1 e2 D e3=>?_⟩
 rw[Oa e2,Oa e3]
 exact He.exm_ok (aqZ.mp (aqZ.mp hb _ (pW hl)) _ (pW e1))
theorem ahF{C:Addr}(hb:aiS K C=true):OexC K C:=by
 obtain⟨h1,h2⟩:=He.ba hb
 obtain⟨h2,h3⟩:=He.ba h2
 obtain⟨h3,h4⟩:=He.ba h3
 obtain⟨h4,h5⟩:=He.ba h4
 refine⟨?_,He.eqO_ok h2,of_decide_eq_true h3,of_decide_eq_true h4,h5⟩
 split at h1
 ·next t dd cd sl hl=>
  obtain⟨t1,h1⟩:=He.ba h1
  split at h1
  ·next C' bm k0 k1 k2 k3 n k5 e1 e2=>
   obtain⟨a1,h1⟩:=He.ba h1
   obtain⟨a2,h1⟩:=He.ba h1
   obtain⟨a3,h1⟩:=He.ba h1
   obtain⟨a4,a5⟩:=He.ba h1
   have q1:=of_decide_eq_true t1
   have q2:=of_decide_eq_true a1
   have q3:=of_decide_eq_true a2
   have q4:cd.hasDel=false:=by simpa using a3
   have q5:sl=#[k0,k1,k2,k3,some (.builtin n),k5]:=by
    rw[←Array.toList_inj]
    exact e2
   obtain⟨nm,bs,mro,ns,qn,hd,sn,sub,ab,col,hdel⟩:=cd
   have e1:mro=.ref C'::bm:=e1
   have q4:hdel=false:=q4
   have a4:hd=true:=a4
   subst q1 q2 q3 q4 q5 e1 a4
   exact⟨nm,qn,ns,bs,bm,sn,sub,ab,col,dd,k0,k1,k2,k3,k5,hl,a5⟩
  ·cases h1
 ·cases h1
theorem R8{x:Str}{fs:List Str}(hb:Uv K x fs=true):OexC K (He.ga K x)/\PySem.W.findIn K (.ref (He.ga K x)) "__init__"=some (some (.ref (He.ma K (He.ga K x) "__init__")))/\PySem.W.typeIn K (.ref (He.ma K (He.ga K x) "__init__"))=some (.type "function")/\XfC K (He.ga K x)/\∀f∈fs,PySem.W.findIn K (.ref (He.ga K x)) f=some none:=by
 obtain⟨h1,h2⟩:=He.ba hb
 obtain⟨h2,h3⟩:=He.ba h2
 obtain⟨h3,h4⟩:=He.ba h3
 obtain⟨h4,h5⟩:=He.ba h4
 exact⟨ahF h1,He.eqO_ok h2,of_decide_eq_true h3,xfB_ok h4,fun f hf=>He.eqO_ok (aqZ.mp h5 f hf)⟩
theorem ae2{a:Addr}{xs:List Str}(hb:WL K a xs=true)(H:Hp):SqT K H a (xs.map V.str):=by
 unfold WL at hb
 split at hb
 ·next c d its n sl hl=>
  obtain⟨h1,h2⟩:=He.ba hb
  obtain⟨h3,h4⟩:=He.ba h2
  have q1:=of_decide_eq_true h1
  subst q1
  exact .inr ⟨_,its,n,hl,rfl,rfl,of_decide_eq_true h3,He.relAll_ok h4⟩
 ·cases hb
def yR(kvs:List (Str×List Str)):List (Str×Dat):=kvs.map fun q=>(q.1,.tuple (q.2.map PyData.str))
theorem Vl{g:Gh}{H:Hp}:∀xs:List Str,aH K g H (xs.map V.str) (xs.map PyData.str)
 |[]=>.nil
 |x::xs=>.cons (.str x) (Vl xs)
theorem QX{y:Str}:∀{kvs:List (Str×List Str)},(yR kvs).lookup y=(kvs.lookup y).map fun xs=>PyData.tuple (xs.map PyData.str)
 |[]=>rfl
 |(z,xs)::r=>by
  show List.lookup y ((z,PyData.tuple (xs.map PyData.str))::yR r)=_
  rw[aq6,aq6]
  split
  ·rfl
  ·exact QX
theorem look_none{α:Type}{y:Str}:∀{kvs:List (Str×α)},kvs.lookup y=none->y∉kvs.map (·.1)
 |[],_=>by simp
 |(z,a)::r,h=>by
  rw[aq6]at h
  split at h
  ·cases h
  ·next hn=>
   rw[aqI,aqV]
   rintro(e|e)
   ·subst e
    simp at hn
   ·exact look_none h e
theorem agk{x:Str}{kvs:List (Str×List Str)}(hb:aeR K x kvs=true)(hk:∃es n,KDict K w (He.ga K x) es n):ab7 w K (He.ga K x) (yR kvs):=by
 obtain⟨h1,h2⟩:=He.ba hb
 obtain⟨h2,h3⟩:=He.ba h2
 obtain⟨es,n,D⟩:=hk
 rw[D.at_]at h1
 refine⟨es,n,D,?_,fun y=>?_⟩
 ·unfold yR
  rw[arf]
  exact of_decide_eq_true h2
 ·rw[QX]
  cases hl:kvs.lookup y with
  |some xs=>
   have h4:=aqZ.mp h3 _ (pW hl)
   show ∃v u,PySem.W.nsIn K (He.ga K x) y=some (some u)/\RelV v u/\∀g H,Rep K g H v (.tuple (xs.map PyData.str))
   have h4:(match PySem.W.nsIn K (He.ga K x) y with
    |some (some (.ref a))=>WL K a xs
    |_=>false)=true:=h4
   split at h4
   ·next a he=>exact⟨.ref a,.ref a,he,rfl,fun g H=>.tup (ae2 h4 H) (Vl xs)⟩
   ·cases h4
  |none=>
   show PySem.W.nsIn K (He.ga K x) y=some none
   have ny:=look_none hl
   unfold PySem.W.nsIn
   rw[D.at_]
   have h1:es.toList.all (fun e=>(match e.key with
    |.str y _=>(kvs.map (·.1)).contains y
    |_=>false)&&!e.refKey)=true:=h1
   have f1:es.toList.find? (·.key.isStr y)=none:=by
    rw[List.find?_eq_none]
    intro e he z
    obtain⟨a1,a2⟩:=He.ba (aqZ.mp h1 e he)
    split at a1
    ·next y' tk hy=>
     rw[hy]at z
     have z:(y'==y)=true:=z
     have e':=eq_of_beq z
     subst e'
     exact ny (by simpa using a1)
    ·cases a1
   have f2:es.toList.any (·.refKey)=false:=by
    rw[List.any_eq_false]
    intro e he z
    obtain⟨a1,a2⟩:=He.ba (aqZ.mp h1 e he)
    rw[z]at a2
    cases a2
   show(match es.toList.find? (·.key.isStr y) with
    |some e=>some (some e.val)
    |none=>if es.toList.any (·.refKey) then none else some none)=some none
   rw[f1,f2]
   rfl
end
section
variable{P:Program}{w:World}{K:aqE}{mg:Str->Option Value}{base:Heap}{k:Nat}{xs:List Str}{ft:Ft}
def W4(P:Program)(w:World)(K:aqE)(mg:Str->Option Value)(base:Heap)(aj:aO)(k:Nat)(m:Str):List (Str×MV)->Prop
 |[]=>True
 |(c,v)::r=>bV P w K mg base aj k c m v/\W4 P w K mg base aj k m r
def DY(P:Program)(w:World)(K:aqE)(mg:Str->Option Value)(base:Heap)(aj:aO)(k:Nat):List (Str×List (Str×MV))->Prop
 |[]=>True
 |(m,tb)::r=>W4 P w K mg base aj k m tb/\DY P w K mg base aj k r
theorem W4.get{aj:aO}{m:Str}:∀{tb:List (Str×MV)},W4 P w K mg base aj k m tb->∀c v,tb.lookup c=some v->bV P w K mg base aj k c m v
 |[],_,c,v,h=>nomatch h
 |(y,u)::r,g,c,v,h=>by
  rw[aq6]at h
  split at h
  ·next e=>
   cases h
   rw[eq_of_beq e]
   exact g.1
  ·exact g.2.get c v h
theorem DY.get{aj:aO}:∀{Ms:List (Str×List (Str×MV))},DY P w K mg base aj k Ms->∀m tb,Ms.lookup m=some tb->∀c v,tb.lookup c=some v->bV P w K mg base aj k c m v
 |[],_,m,tb,h=>nomatch h
 |(y,u)::r,g,m,tb,h=>by
  rw[aq6]at h
  split at h
  ·next e=>
   cases h
   rw[eq_of_beq e]
   exact g.1.get
  ·exact g.2.get m tb h
theorem anc{aj:aO}{x:Str}{f:Addr}{fd:FuncData}{ps:List Str}{j:Nat}{m:Mo->List Dat->aZ Dat}(hj:j<=k)(hg:mg x=some (.ref f))(hk:PySem.W.keepIn K (.ref f)=true)(hB:Binds K fd ps [])(F:FnOk P w K mg base (L2.CX P w) j f fd ps (Gi K aj ps.length m)):bf P w K mg base aj k x (.fg ps.length m):=
 ⟨f,hg,hk,fd,ps,j,hj,rfl,hB,F⟩
theorem iH{x:Str}(hn:xs.contains x=true)(hg:mg x=some (.ref (He.ga K x)))(he:(He.Fa.exc x).ok K=true):bf P w K mg base (nM w K xs ft) k x .exc:=by
 obtain⟨h1,h2,h3,h4⟩:=He.exc_ok he
 exact⟨_,hg,BR hn,h1,h2,h3,h4⟩
theorem ajm{x:Str}{fd:FuncData}{ps:List Str}{j n:Nat}{m:Mo->List Dat->aZ Dat}(hj:j+1<=k)(hn:xs.contains x=true)(hg:mg x=some (.ref (He.ga K x)))(hc:Cls K (He.ga K x))(hm:(He.Fa.mkr x).ok K=true)(hp:ps.length=n+1)(hB:Binds K fd ps [])
  (F:FnOk P w K mg base (L2.CX P w) j (He.ma K (He.ga K x) "__init__") fd ps (Gi K (nM w K xs ft) ps.length m)):bf P w K mg base (nM w K xs ft) k x (.cls n m):=
 ⟨_,_,fd,ps,j,hg,BR hn,hc,He.mkr_ok hm,hj,hp,hB,F⟩
theorem akI{aj:aO}{x:Str}{kvs:List (Str×List Str)}(hg:mg x=some (.ref (He.ga K x)))(hb:aeR K x kvs=true)(hk:∃es n,KDict K w (He.ga K x) es n):bf P w K mg base aj k x (.dic (yR kvs)):=⟨_,hg,agk hb hk⟩
theorem aij{x:Str}{fs:List Str}{fd:FuncData}{ps:List Str}(h2:2<=k)(hn:xs.contains x=true)(hg:mg x=some (.ref (He.ga K x)))(ho:Uv K x fs=true)(hp:ps.length=fs.length+1)(hB:Binds K fd ps [])(F:FnOk P w K mg base CX0 1 (He.ma K (He.ga K x) "__init__") fd ps (aeO (He.ga K x) fs)):bf P w K mg base (nM w K xs ft) k x (.exi fs):=by
 obtain⟨h1,h3,h4,_,_⟩:=R8 ho
 exact⟨_,_,fd,ps,hg,BR hn,h1,h3,h4,h2,hp,hB,F⟩
theorem afY{m:Str}{l:List Str}(hf:l.contains m=false)(z:m∈l):False:=by
 rw[List.contains_iff_mem.mpr z]at hf
 cases hf
theorem amm{c m:Str}{fd:FuncData}{ps:List Str}{j:Nat}{mm:Mo->List Dat->Out Dat}(hj:j<=k)(hn:xs.contains c=true)(hc:Cls K (He.ga K c))(hm:(He.Fa.meth c m).ok K=true)(hf:((ft.lookup c).getD []).contains m=false)(hB:Binds K fd ps [])(F:FnOk P w K mg base (L2.CX P w) j (He.ma K (He.ga K c) m) fd ps (QJ K (nM w K xs ft) ps.length mm)):bV P w K mg base (nM w K xs ft) k c m (.q ps.length mm):=
 ⟨_,_,BR hn,hc,He.meth_ok hm,(fun z=>afY hf z),fd,ps,j,hj,rfl,hB,F⟩
theorem amL{c m:Str}{fd:FuncData}{ps:List Str}{j:Nat}{mm:Mo->List Dat->aZ Dat}(hj:j<=k)(hn:xs.contains c=true)(hc:Cls K (He.ga K c))(hm:(He.Fa.meth c m).ok K=true)(hf:((ft.lookup c).getD []).contains m=false)(hB:Binds K fd ps [])(F:FnOk P w K mg base (L2.CX P w) j (He.ma K (He.ga K c) m) fd ps (Gi K (nM w K xs ft) ps.length mm)):bV P w K mg base (nM w K xs ft) k c m (.g ps.length mm):=
 ⟨_,_,BR hn,hc,He.meth_ok hm,(fun z=>afY hf z),fd,ps,j,hj,rfl,hB,F⟩
theorem alV{Ms:List (Str×List (Str×MV))}{xm:List (Str×List (Str×Bool))}{df:List (Str×Bool)}{xf:List (Str×List Str)}(hm:DY P w K mg base (nM w K xs ft) k Ms)(hb:KY K ft=true)(hx:xmB K xm=true)(hn:xmN xs xm=true)(hf:(xf.all fun p=>xs.contains p.1&&Uv K p.1 p.2)=true):R5 P w K mg base (nM w K xs ft) k ⟨Ms,ft,xm,df,xf⟩ where
 ms:=hm.get
 fk:=aeI
 co:=adp hb
 hw:=rfl
 xm:=akV hx hn
 xf:=fun y fs hl=>by
  obtain⟨h1,h2⟩:=He.ba (aqZ.mp hf _ (pW hl))
  obtain⟨_,_,_,h3,h4⟩:=R8 h2
  exact⟨_,BR h1,h3,h4⟩
end
abbrev lI(l:List Int):Dat:=.list (l.map PyData.int)
abbrev aM(l:List Int):Dat:=.tuple (l.map PyData.int)
theorem jG{tg:fK}{body:SF}{d:Dat}{ds:List Dat}{M M2:Mo}{ρ ρ1 ρ2:Env}(h1:tg d ρ=some ρ1)(h2:body M ρ1=.next ρ2 M2):gQ tg body (d::ds) M ρ=gQ tg body ds M2 ρ2:=by
 rw[gQ,h1]
 show(match body M ρ1 with
   |.next ρ2 M2=>gQ tg body ds M2 ρ2
   |.cont ρ2 M2=>gQ tg body ds M2 ρ2
   |.brk ρ2 M2=>.next ρ2 M2
   |.ret d M2=>.ret d M2
   |.exc x ρ2 M2=>.exc x ρ2 M2
   |.bad=>.bad)=_
 rw[h2]
theorem gU{α:Type}{tg:fK}{tt:QT}{te:QF}{M:Mo}{ρ:Env}(ds:α->Dat)(p:α->Bool)(f:α->Dat):∀(xs:List α),(∀x∈xs,∃ρ1,tg (ds x) ρ=some ρ1/\tt M ρ1=.ok (p x)/\(p x=true->te M ρ1=.ok (f x)))->dh tg tt te M ρ (xs.map ds)=.ok ((xs.filter p).map f)
 |[],_=>rfl
 |x::xs,h=>by
  obtain⟨ρ1,h1,h2,h3⟩:=h x aqK
  have ih:=gU ds p f xs fun y hy=>h y (aqJ _ hy)
  rw[aqI,dh,h1]
  show((xK (tt M ρ1)).bind fun b=>if b=true then(xK (te M ρ1)).bind fun y=>(dh tg tt te M ρ (xs.map ds)).bind fun r=>.ok (y::r) else dh tg tt te M ρ (xs.map ds))=_
  rw[h2,ih]
  cases hp:p x with
  |true=>
   show(if true=true then(xK (te M ρ1)).bind fun y=>(Out.ok ((xs.filter p).map f)).bind fun r=>.ok (y::r) else Out.ok ((xs.filter p).map f))=_
   rw[h3 hp,if_pos rfl,List.filter_cons_of_pos hp]
   rfl
  |false=>
   show(if false=true then(xK (te M ρ1)).bind fun y=>(Out.ok ((xs.filter p).map f)).bind fun r=>.ok (y::r) else Out.ok ((xs.filter p).map f))=_
   rw[if_neg (by decide),List.filter_cons_of_neg (by rw[hp];decide)]
theorem gR{α:Type}{tg:fK}{te:QF}{M:Mo}{ρ:Env}(ds:α->Dat)(f:α->Dat)(xs:List α)(h:∀x∈xs,∃ρ1,tg (ds x) ρ=some ρ1/\te M ρ1=.ok (f x)):dh tg jf te M ρ (xs.map ds)=.ok (xs.map f):=by
 have:=gU (tt:=jf) ds (fun _=>true) f xs fun x hx=>by
  obtain⟨ρ1,h1,h2⟩:=h x hx
  exact⟨ρ1,h1,rfl,fun _=>h2⟩
 rw[this,arM.mpr (fun _ _=>rfl)]
theorem afS{i j:Int}(h : -(2 ^ 64) < i/\i < 2 ^ 64):decide (CMul i j)=true:=decide_eq_true (.inl h)
theorem mul_r{i j:Int}(h : -(2 ^ 64) < j/\j < 2 ^ 64):decide (CMul i j)=true:=decide_eq_true (.inr h)
section
variable(M:Mo)(ρ:Env)
@[simp]theorem aiW (f k:SF):aD f k M ρ=match f M ρ with
 |.next ρ' M'=>k M' ρ'
 |o=>o:=rfl
@[simp]theorem anP:aR M ρ=.next ρ M:=rfl
@[simp]theorem apL (tg:fK) (f:GF):aW tg f M ρ=(f M ρ).then ρ fun d M'=>match tg d ρ with
 |some ρ'=>.next ρ' M'
 |none=>.bad:=rfl
@[simp]theorem an7 (i j:Nat) (f:GF):Q6 i j f M ρ=(f M ρ).then ρ fun d M'=>.next ((ρ.set i (some (.dat d))).set j (some (.dat d))) M':=rfl
@[simp]theorem ev_if (t:QT) (f k:SF):bO t f k M ρ=((t M (qT ρ)).at M).then ρ fun c M'=>if c=true then f M' ρ else k M' ρ:=rfl
@[simp]theorem aog (f:QF):aQ f M ρ=((f M (qT ρ)).at M).then ρ fun d M'=>.ret d M':=rfl
@[simp]theorem aoo (it:IF) (tg:fK) (body:SF):sW it tg body M ρ=((it M ρ).at M).then ρ fun ds M'=>gQ tg body ds M' ρ:=rfl
@[simp]theorem aoA (j:Nat) (f:IF):Hu j f M ρ=((f M ρ).at M).then ρ fun xs M'=>.next (ρ.set j (some (.mut xs))) M':=rfl
@[simp]theorem anO (f:GF):cH f M ρ=(f M ρ).then ρ fun _ M'=>.next ρ M':=rfl
@[simp]theorem aoJ (j:Nat) (f:QF):Og j f M ρ=match ρ[j]? with
 |some (some (.mut xs))=>((f M ρ).at M).then ρ fun d M'=>if xs.length < 100000 then .next (ρ.set j (some (.mut (xs++[d])))) M' else .bad
 |_=>.bad:=rfl
@[simp]theorem anj (j:Nat) (fi f:QF):ak4 j fi f M ρ=match ρ[j]? with
 |some (some (.mut xs))=>((f M ρ).at M).then ρ fun d M'=>((fi M' ρ).at M').then ρ fun i M2=>match i with
  |.int k=>match ixN xs.length k with
   |some n=>.next (ρ.set j (some (.mut (xs.set n d)))) M2
   |none=>.bad
  |_=>.bad
 |_=>.bad:=rfl
@[simp]theorem apK (j:Nat) (f:QF):O5 j f M ρ=match ρ[j]? with
 |some (some (.dat (.int i)))=>((f M ρ).at M).then ρ fun d M'=>match d with
  |.int k=>.next (ρ.set j (some (.dat (.int (i+k))))) M'
  |_=>.bad
 |_=>.bad:=rfl
@[simp]theorem anA (i j:Nat) (f:GF):W8 i j f M ρ=(f M ρ).then ρ fun d M'=>match d with
 |.list (d0::ds)=>if ds.length<=16000 then .next ((ρ.set i (some (.dat d0))).set j (some (.dat (.list ds)))) M' else .bad
 |.tuple (d0::ds)=>if ds.length<=16000 then .next ((ρ.set i (some (.dat d0))).set j (some (.dat (.list ds)))) M' else .bad
 |_=>.bad:=rfl
@[simp]theorem aqw (js:List Nat) (as:QA):sPN js as M ρ=((as M ρ).at M).then ρ fun ds M'=>match qQ js ds ρ with
 |some ρ'=>.next ρ' M'
 |none=>.bad:=rfl
@[simp]theorem apT (f:QF):gOf f M ρ=(f M ρ).at M:=rfl
@[simp]theorem ev_op (o:Dat->Dat->Out Dat) (a b:QF):aA o a b M ρ=(a M ρ).bind fun x=>(b M ρ).bind fun y=>o x y:=rfl
@[simp]theorem ev_un (o:Dat->Out Dat) (a:QF):fH o a M ρ=(a M ρ).bind o:=rfl
@[simp]theorem ev_c (d:Dat):qC d M ρ=.ok d:=rfl
@[simp]theorem ev_var (i:Nat):aq i M ρ=match ρ[i]? with
 |some (some (.dat d))=>.ok d
 |_=>.bad:=rfl
@[simp]theorem anr (i:Nat):ao i M ρ=match ρ[i]? with
 |some (some (.dat d))=>.ok d
 |some (some (.mut xs))=>.ok (.list xs)
 |_=>.bad:=rfl
@[simp]theorem aon:au M ρ=.ok []:=rfl
@[simp]theorem anx (a:QF) (r:QA):ak a r M ρ=(a M ρ).bind fun x=>(r M ρ).bind fun xs=>.ok (x::xs):=rfl
@[simp]theorem aoR (r:QA):bA r M ρ=(r M ρ).bind fun xs=>Out.when (decide (xs.length<=100000)) (.ok (.tuple xs)):=rfl
@[simp]theorem apl (r:QA):Ae r M ρ=(r M ρ).bind fun xs=>Out.when (decide (xs.length<=100000)) (.ok (.list xs)):=rfl
@[simp]theorem aoK (a:QF):jd a M ρ=(a M ρ).bind Io:=rfl
@[simp]theorem aqe (a:QF):bx a M ρ=(a M ρ).bind Aq:=rfl
@[simp]theorem anm (a:QT):jJ a M ρ=(a M ρ).bind fun b=>.ok (!b):=rfl
@[simp]theorem an8 (a b:QT):kY a b M ρ=(a M ρ).bind fun x=>if x=true then b M ρ else .ok false:=rfl
@[simp]theorem apn (a b:QT):JC a b M ρ=(a M ρ).bind fun x=>if x=true then .ok true else b M ρ:=rfl
@[simp]theorem aqc (a:QT):VL a M ρ=(a M ρ).bind fun b=>.ok (.bool b):=rfl
@[simp]theorem apo (t:QT) (a b:QF):Qu t a b M ρ=(t M ρ).bind fun x=>if x=true then a M ρ else b M ρ:=rfl
@[simp]theorem ev_is (neg:Bool) (c:Dat) (a:QF):xP neg c a M ρ=(a M ρ).bind fun d=>.ok (.bool (neg ^^ oO c d)):=rfl
@[simp]theorem ev_notV (a:QF):Pk a M ρ=((a M ρ).bind Aq).bind fun b=>.ok (.bool (!b)):=by
 show(((a M ρ).bind Aq).bind fun b=>Out.ok (!b)).bind (fun b=>Out.ok (PyData.bool b))=_
 cases a M ρ with
 |ok d=>cases h:Aq d <;> simp[Out.bind,h]
 |exc x=>rfl
 |bad=>rfl
@[simp]theorem ev_andV (a b:QF):wB a b M ρ=(a M ρ).bind fun d=>(Aq d).bind fun x=>if x=true then b M ρ else .ok (.bool false):=rfl
@[simp]theorem ev_orV (a b:QF):afH a b M ρ=(a M ρ).bind fun d=>(Aq d).bind fun x=>if x=true then .ok (.bool true) else b M ρ:=rfl
@[simp]theorem amr (o o':Dat->Dat->Out Dat) (a b c:QF):lE o o' a b c M ρ=(a M ρ).bind fun x=>(b M ρ).bind fun y=>(o x y).bind fun z=>(Aq z).bind fun k=>if k=true then(c M ρ).bind fun w=>(o' y w).bind Aq else .ok false:=rfl
@[simp]theorem aok (t:M5) (a:QF):wD t a M ρ=(a M ρ).bind (yx t):=rfl
@[simp]theorem aqq (a:QF) (lo hi:QO):Cg a lo hi M ρ=(a M ρ).bind fun d=>(lo M ρ).bind fun l=>(hi M ρ).bind fun h=>YL d l h:=rfl
@[simp]theorem aqk:pq M ρ=.ok none:=rfl
@[simp]theorem aqx (a:QF):kE a M ρ=(a M ρ).bind fun d=>(zU d).bind fun i=>.ok (some i):=rfl
@[simp]theorem ev_call (m:Mo->List Dat->Out Dat) (as:QA):aY m as M ρ=(as M ρ).bind fun ds=>m M ds:=rfl
@[simp]theorem amP (a:QF):dw a M ρ=(a M ρ).bind oM:=rfl
@[simp]theorem al3 (a:QF):yg a M ρ=(a M ρ).bind fun d=>(zU d).bind fun n=>Out.when (decide (n<=100000/\-100000<=n)) (.ok (gH 0 n.toNat)):=rfl
@[simp]theorem anv (k₀:Int) (a:QF):yM k₀ a M ρ=(a M ρ).bind fun d=>(oM d).bind fun ds=>.ok (rN k₀ ds):=rfl
@[simp]theorem apC (a b:QF):JK a b M ρ=(a M ρ).bind fun d=>(b M ρ).bind fun e=>(oM d).bind fun ds=>(oM e).bind fun es=>.ok (wY ds es):=rfl
@[simp]theorem anS (it:IF) (tg:fK) (vs:List Nat) (tt:QT) (te:QF):fu it tg vs tt te M ρ=(it M ρ).bind fun ds=>Out.when (decide (ds.length<=50000)) ((dh tg tt te M (cC ρ vs) ds).bind fun r=>.ok (.list r)):=rfl
@[simp]theorem amg (it:IF) (tg:fK) (vs:List Nat) (tt:QT) (te:QF):Cp it tg vs tt te M ρ=(it M ρ).bind fun ds=>Out.when (decide (ds.length<=50000)) (dh tg tt te M (cC ρ vs) ds):=rfl
@[simp]theorem apB (f:QA):Rz f M ρ=(f M ρ).bind fun xs=>Out.when (decide (xs.length<=100000)) (.ok xs):=rfl
@[simp]theorem akN (f:QF):afv f M ρ=(f M ρ).bind W9:=rfl
@[simp]theorem al5 (j:Nat) (d:Dat):aF j d ρ=some (ρ.set j (some (.dat d))):=rfl
@[simp]theorem amH (js:List Nat) (ds:List Dat):bL js (.tuple ds) ρ=qQ js ds ρ:=rfl
@[simp]theorem aqp (n:Nat) (b:SF) (ds:List Dat):mQ n b M ds=match b M (ini n ds) with
 |.ret d _=>.ok d
 |.next _ _=>.ok .none
 |.exc x _ _=>.exc x
 |_=>.bad:=rfl
@[simp]theorem aqy (n:Nat) (b:SF) (ds:List Dat):mG n b M ds=match b M (ini n ds) with
 |.ret d M'=>.ok d M'
 |.next _ M'=>.ok .none M'
 |.exc x _ M'=>.exc x M'
 |_=>.bad:=rfl
end
section
variable(i j:Int)(ds es:List Dat)(b c:Bool)(x y:Str)
@[simp]theorem anp:dY (.int i) (.int j)=.ok (.int (i+j)):=rfl
@[simp]theorem anY:dY (.list ds) (.list es)=Out.when (decide (ds.length+es.length<=100000)) (.ok (.list (ds++es))):=rfl
@[simp]theorem anU:dY (.tuple ds) (.tuple es)=Out.when (decide (ds.length+es.length<=100000)) (.ok (.tuple (ds++es))):=rfl
@[simp]theorem aoS:lg (.int i) (.int j)=.ok (.int (i - j)):=rfl
@[simp]theorem ap4:wM (.int i) (.int j)=Out.when (decide (CMul i j)) (.ok (.int (i * j))):=rfl
@[simp]theorem aoz:Af (.int i) (.int j)=Out.when (decide (CDiv i j)) (.ok (.int (i / j))):=rfl
@[simp]theorem aoc:jP (.int i) (.int j)=Out.when (decide (0 < j)) (.ok (.int (i % j))):=rfl
@[simp]theorem aot:Oh (.int i) (.int j)=Out.when (decide (CPow i j)) (.ok (.int (i ^ j.toNat))):=rfl
@[simp]theorem aqu:Nf (.int i) (.int j)=.ok (.bool (decide (i < j))):=rfl
@[simp]theorem aqd:rP (.int i) (.int j)=.ok (.bool (decide (i<=j))):=rfl
@[simp]theorem aqn:YJ (.int i) (.int j)=.ok (.bool (decide (j < i))):=rfl
@[simp]theorem aqf:geD (.int i) (.int j)=.ok (.bool (decide (j<=i))):=rfl
@[simp]theorem ap0:bZ (.int i) (.int j)=.ok (.bool (i==j)):=rfl
@[simp]theorem ao4:bZ (.str x) (.str y)=.ok (.bool (x==y)):=rfl
@[simp]theorem apD:bZ (.bool b) (.bool c)=.ok (.bool (b==c)):=rfl
@[simp]theorem apq:Cm (.int i) (.int j)=.ok (.bool (!(i==j))):=rfl
@[simp]theorem aoq:Cm (.str x) (.str y)=.ok (.bool (!(x==y))):=rfl
@[simp]theorem apy:R3 (.int i)=.ok (.int (-i)):=rfl
@[simp]theorem ank:Io (.bool b)=.ok b:=rfl
@[simp]theorem an2:Io (.list ds)=.ok (!ds.isEmpty):=rfl
@[simp]theorem an4:Io (.tuple ds)=.ok (!ds.isEmpty):=rfl
@[simp]theorem apu:Aq (.bool b)=.ok b:=rfl
@[simp]theorem ano:oN (.list ds)=.ok (.int ds.length):=rfl
@[simp]theorem ani:oN (.tuple ds)=.ok (.int ds.length):=rfl
@[simp]theorem ao3:Ss (.int i)=.ok (.int (if i < 0 then -i else i)):=rfl
@[simp]theorem ev_max2:u5 (.int i) (.int j)=.ok (.int (if j > i then j else i)):=rfl
@[simp]theorem an0:Ij (.int i) (.int j)=.ok (.int (if j < i then j else i)):=rfl
@[simp]theorem apz:aU (.list ds) (.int i)=match atI ds i with
  |some d=>.ok d
  |none=>.bad:=rfl
@[simp]theorem apF:aU (.tuple ds) (.int i)=match atI ds i with
  |some d=>.ok d
  |none=>.bad:=rfl
@[simp]theorem anV:zU (.int i)=.ok i:=rfl
@[simp]theorem apS (lo hi:Option Int):YL (.list ds) lo hi=.ok (.list (cutD ds lo hi)):=rfl
@[simp]theorem aps (lo hi:Option Int):YL (.tuple ds) lo hi=.ok (.tuple (cutD ds lo hi)):=rfl
@[simp]theorem anE:mF (.list ds)=.ok (.tuple ds):=rfl
@[simp]theorem anG:mF (.tuple ds)=.ok (.tuple ds):=rfl
@[simp]theorem amK:Ma (.list ds)=.ok (.list ds):=rfl
@[simp]theorem amx:Ma (.tuple ds)=.ok (.list ds):=rfl
@[simp]theorem aov:W9 (.list ds)=.ok ds:=rfl
@[simp]theorem aoL:W9 (.tuple ds)=.ok ds:=rfl
@[simp]theorem aod:oM (.list ds)=.ok ds:=rfl
@[simp]theorem apY:oM (.tuple ds)=.ok ds:=rfl
@[simp]theorem anq (o:Option Cell) (ρ:Env):qT (o::ρ)=o.map Q9::qT ρ:=rfl
@[simp]theorem amv:qT []=[]:=rfl
@[simp]theorem am4 (d:Dat):Q9 (.dat d)=.dat d:=rfl
@[simp]theorem am3 (ds:List Dat):Q9 (.mut ds)=.dat (.list ds):=rfl
@[simp]theorem an1 (ρ:Env):qQ [] [] ρ=some ρ:=rfl
@[simp]theorem anT (j:Nat) (js:List Nat) (d:Dat) (ρ:Env):qQ (j::js) (d::ds) ρ=qQ js ds (ρ.set j (some (.dat d))):=rfl
@[simp]theorem am6 (ρ:Env):cC ρ []=ρ:=rfl
@[simp]theorem amX (ρ:Env) (j:Nat) (js:List Nat):cC ρ (j::js)=(cC ρ js).set j none:=rfl
@[simp]theorem al6 {α:Type} (a:α) (l:List α):atI (a::l) 0=some a:=atI_nat (j:=0) rfl
@[simp]theorem anR (n:Nat):ini n ds=ds.map (fun d=>some (.dat d))++List.replicate (n - ds.length) none:=rfl
end
theorem aa3{a b:String}:Str.ofString a=Str.ofString b↔a=b:=by
 constructor
 ·intro h
  rw[Str.ofString_eq_toList,Str.ofString_eq_toList]at h
  have h1:a.toList.map Char.toNat=b.toList.map Char.toNat:=by simpa using h
  have h2:a.toList=b.toList:=by
   refine List.map_inj_right (f:=Char.toNat) (fun x y e=>?_) |>.mp h1
   exact Char.ext (UInt32.toNat_inj.mp e)
  exact String.toList_inj.mp h2
 ·rintro rfl
  rfl
@[simp]theorem apW (a b:String):(Str.ofString a=Str.ofString b)=(a=b):=propext aa3
@[simp]theorem anK (a b:String):(Str.ofString a==Str.ofString b)=decide (a=b):=by
 rw[arN]
 simp[aa3]
@[simp]theorem aqo {α:Type} (a b:α) (l:List α):atI (a::b::l) 1=some b:=atI_nat (j:=1) rfl
@[simp]theorem aqg {α:Type} (a b c:α) (l:List α):atI (a::b::c::l) 2=some c:=atI_nat (j:=2) rfl
@[simp]theorem aql {α:Type} (a b c d:α) (l:List α):atI (a::b::c::d::l) 3=some d:=atI_nat (j:=3) rfl
@[simp]theorem aqi {α:Type} (a b c d e:α) (l:List α):atI (a::b::c::d::e::l) 4=some e:=atI_nat (j:=4) rfl
@[simp]theorem aqr {α:Type} (a b c d e f:α) (l:List α):atI (a::b::c::d::e::f::l) 5=some f:=atI_nat (j:=5) rfl
@[simp]theorem aqt {α:Type} (a b c d e f g:α) (l:List α):atI (a::b::c::d::e::f::g::l) 6=some g:=atI_nat (j:=6) rfl
@[simp]theorem amE (s:String):PyData.strOk (Str.ofString s)=true:=by
 rw[Str.ofString_eq_toList]
 unfold PyData.strOk
 simp only[Array.all_eq_true,decide_eq_true_eq]
 intro i h
 simp only[List.getElem_toArray,List.getElem_map]
 have:=s.toList[i]'(by simpa using h) |>.valid
 rcases this with z|⟨_,z⟩
 ·show(s.toList[i]'(by simpa using h)).val.toNat < _
  omega
 ·show(s.toList[i]'(by simpa using h)).val.toNat < _
  omega
section
variable(i j:Int)(x y:Str)(d e:Dat)(ds es:List Dat)(b c:Bool)
@[simp]theorem Xg:PyData.eqv (.int i) (.int j)=(i==j):=by simp[PyData.eqv]
@[simp]theorem aof:PyData.eqv (.str x) (.str y)=(x==y):=by simp[PyData.eqv]
@[simp]theorem ap8:PyData.eqv (.bool b) (.bool c)=(b==c):=by simp[PyData.eqv]
@[simp]theorem ap6:PyData.eqv .none .none=true:=by simp[PyData.eqv]
@[simp]theorem YS:PyData.eqv (.tuple ds) (.tuple es)=PyData.eqvAll ds es:=by simp[PyData.eqv]
@[simp]theorem ap3:PyData.eqv (.list ds) (.list es)=PyData.eqvAll ds es:=by simp[PyData.eqv]
@[simp]theorem ao7:PyData.eqv (.tuple ds) .none=false:=by simp[PyData.eqv]
@[simp]theorem apf:PyData.eqv .none (.tuple ds)=false:=by simp[PyData.eqv]
@[simp]theorem ao1:PyData.eqv (.str x) (.int i)=false:=by simp[PyData.eqv]
@[simp]theorem aoi:PyData.eqv (.int i) (.str x)=false:=by simp[PyData.eqv]
@[simp]theorem ahC:PyData.eqvAll [] []=true:=by simp[PyData.eqvAll]
@[simp]theorem an5:PyData.eqvAll [] (d::ds)=false:=by simp[PyData.eqvAll]
@[simp]theorem anI:PyData.eqvAll (d::ds) []=false:=by simp[PyData.eqvAll]
@[simp]theorem aaZ:PyData.eqvAll (d::ds) (e::es)=(PyData.eqv d e&&PyData.eqvAll ds es):=by simp[PyData.eqvAll]
end
@[simp]theorem yS:∀l m:List Int,PyData.eqvAll (l.map PyData.int) (m.map PyData.int)=decide (l=m)
 |[],[]=>by simp
 |[],_::_=>by simp
 |_::_,[]=>by simp
 |a::l,b::m=>by
  rw[aqI,aqI,aaZ,yS l m,Xg]
  by_cases h:a=b <;> by_cases h2:l=m <;> simp[h,h2]
theorem HF{n:Nat}:∀{ds:List Dat},mY n ds=true↔∀d∈ds,okd n d=true
 |[]=>by simp[mY]
 |d::ds=>by simp[mY,HF (ds:=ds)]
@[simp]theorem ahW (n:Nat) (i:Int):okd n (.int i)=true:=by simp[okd]
@[simp]theorem V2 (n:Nat) (l:List Int):mY n (l.map PyData.int)=true:=HF.mpr fun d h=>by
 obtain⟨i,_,rfl⟩:=aqR.mp h
 simp
def ob(h:Nat):Dat:=obj h
section
variable(M:Mo)(ρ:Env)(h:Nat)(f:Str)
@[simp]theorem anw:JN M f (ob h)=(M[h]?).bind fun i=>i.fs.lookup f:=rfl
@[simp]theorem amV (tb:List (Str×MV)):Dh tb M (ob h)=(M[h]?).bind fun i=>tb.lookup i.cls:=rfl
@[simp]theorem Xb:jW M (ob h)=(M[h]?).bind fun i=>match i.cls=="" with
 |true=>none
 |false=>some (h,i):=rfl
@[simp]theorem aoE (o:QF):gq f o M ρ=(o M ρ).bind fun d=>match JN M f d with
 |some (.dat x)=>.ok x
 |_=>.bad:=rfl
@[simp]theorem anl (o:QF):bJ f o M ρ=(o M ρ).bind fun d=>match JN M f d with
 |some (.dat x)=>.ok x
 |some (.lst _ xs)=>.ok (.list xs)
 |_=>.bad:=rfl
@[simp]theorem anZ (tb:List (Str×MV)) (o:QF) (as:QA):aP tb o as M ρ=(o M ρ).bind fun d=>match Dh tb M d with
 |some (.q _ m)=>(as M ρ).bind fun ds=>m M (d::ds)
 |_=>.bad:=rfl
@[simp]theorem am0 (tb:List (Str×MV)) (o:QF) (as:QA):cM tb o as M ρ=((o M ρ).at M).bind fun d _=>match Dh tb M d with
 |some (.q _ m)=>((as M ρ).at M).bind fun ds _=>(m M (d::ds)).at M
 |some (.g _ m)=>((as M ρ).at M).bind fun ds _=>m M (d::ds)
 |none=>.bad:=rfl
@[simp]theorem ant (x:Str) (m:Mo->List Dat->aZ Dat) (as:QA):zY x m as M ρ=((as M ρ).at M).bind fun ds _=>match m (M++[⟨x,[]⟩]) (ob M.length::ds) with
 |.ok .none M'=>.ok (ob M.length) M'
 |_=>.bad:=rfl
@[simp]theorem amt (m:Mo->List Dat->aZ Dat) (as:QA):Bh m as M ρ=((as M ρ).at M).bind fun ds _=>m M ds:=rfl
@[simp]theorem amc (m:Mo->List Dat->aZ Dat) (as:GA):Yt m as M ρ=(as M ρ).bind fun ds M1=>m M1 ds:=rfl
@[simp]theorem al4 (m:Mo->List Dat->Out Dat) (as:GA):Qw m as M ρ=(as M ρ).bind fun ds M1=>(m M1 ds).at M1:=rfl
@[simp]theorem amA:Xa M ρ=.ok [] M:=rfl
@[simp]theorem amb (a:GF) (r:GA):Eu a r M ρ=(a M ρ).bind fun d M1=>(r M1 ρ).bind fun ds M2=>.ok (d::ds) M2:=rfl
@[simp]theorem ang (t:QT):aeH t M ρ=(t M ρ).at M:=rfl
@[simp]theorem am1 (a:GT):W6 a M ρ=(a M ρ).bind fun b M1=>.ok (!b) M1:=rfl
@[simp]theorem am9 (a b:GT):abV a b M ρ=(a M ρ).bind fun x M1=>if x=true then b M1 ρ else .ok false M1:=rfl
@[simp]theorem an6 (a b:GT):aeM a b M ρ=(a M ρ).bind fun x M1=>if x=true then .ok true M1 else b M1 ρ:=rfl
@[simp]theorem amI (a:GF):WT a M ρ=(a M ρ).bind fun d M1=>(Io d).at M1:=rfl
@[simp]theorem amT (x:Str):dZ x M ρ=.exc ⟨x,[]⟩ ρ M:=rfl
@[simp]theorem al8 (x:Str) (fs:List Str) (as:QA):Bo x fs as M ρ=((as M ρ).at M).then ρ fun ds M'=>.exc ⟨x,(fs.zip ds).reverse⟩ ρ M':=rfl
@[simp]theorem apH (b:SF) (hs:List Hd):Ua b hs M ρ=match b M ρ with
 |.exc x ρ' M'=>hdl hs x ρ' M'
 |o=>o:=rfl
@[simp]theorem aoa (x:dJ):hdl [] x ρ M=.exc x ρ M:=rfl
@[simp]theorem anF (h:Hd) (r:List Hd) (x:dJ):hdl (h::r) x ρ M=match h.tk x.cls with
  |some true=>match aby ρ h.nm with
   |true=>match Dt h.y x h.st (Tt ρ h.nm) with
    |some ρ2=>.next (Tt ρ2 h.nm) M
    |none=>.bad
   |false=>.bad
  |some false=>hdl r x ρ M
  |none=>.bad:=rfl
@[simp]theorem anB:Tt ρ none=ρ:=rfl
@[simp]theorem anM (i:Nat):Tt ρ (some i)=ρ.set i none:=rfl
@[simp]theorem ane:aby ρ none=true:=rfl
@[simp]theorem amW (i:Nat):aby ρ (some i)=decide (i < ρ.length):=rfl
@[simp]theorem ap2 (y:Str) (x:dJ):Dt y x [] ρ=some ρ:=rfl
@[simp]theorem apR (y:Str) (x:dJ) (j:Nat) (e:Di) (r:List (Nat×Di)):Dt y x ((j,e)::r) ρ=(Zj y x e).bind fun d=>Dt y x r (ρ.set j (some (.dat d))):=rfl
@[simp]theorem apU (y:Str) (x:dJ) (d:Dat):Zj y x (.con d)=some d:=rfl
@[simp]theorem anJ (g:GF):gY g M ρ=(g M ρ).then ρ fun d M'=>.ret d M':=rfl
@[simp]theorem aow (t:GT) (f k:SF):ace t f k M ρ=(t M ρ).then ρ fun c M'=>if c=true then f M' ρ else k M' ρ:=rfl
@[simp]theorem al2 (a b:QF):Bm a b M ρ=(a M ρ).bind fun d=>(b M ρ).bind fun e=>(zU d).bind fun lo=>(zU e).bind fun n=>Out.when (decide (n<=100000/\-100000<=n/\lo<=100000/\-100000<=lo)) (.ok (gH lo (n - lo).toNat)):=rfl
@[simp]theorem anW (ft:Ft) (o:QF) (e:GF):uF ft o f e M ρ=(e M ρ).then ρ fun d M1=>((o M1 ρ).at M1).then ρ fun od M2=>match jW M2 od with
 |some (h,i)=>match ft.has i.cls f&&decide (i.fs.length < 100) with
  |true=>.next ρ (M2.set h (i.put f (.dat d)))
  |false=>.bad
 |none=>.bad:=rfl
@[simp]theorem anz (ft:Ft) (o:QF) (e:IF):CT ft o f e M ρ=((e M ρ).at M).then ρ fun xs M0=>((o (M0++[⟨"",[]⟩]) ρ).at (M0++[⟨"",[]⟩])).then ρ fun od M2=>match jW M2 od with
 |some (h,i)=>match ft.has i.cls f&&decide (i.fs.length < 100) with
  |true=>.next ρ (M2.set h (i.put f (.lst M0.length xs)))
  |false=>.bad
 |none=>.bad:=rfl
@[simp]theorem anH (ft:Ft) (o:QF) (b:Bool):Lq ft o f b M ρ=((o (M++[⟨"",[]⟩]) ρ).at (M++[⟨"",[]⟩])).then ρ fun od M2=>match jW M2 od with
 |some (h,i)=>match ft.has i.cls f&&decide (i.fs.length < 100) with
  |true=>.next ρ (M2.set h (i.put f (.dic b [])))
  |false=>.bad
 |none=>.bad:=rfl
@[simp]theorem anf (ft:Ft) (o:QF) (e:Mo->Env->Out (List (Dat×Dat))):Qs ft o f e M ρ=((e M ρ).at M).then ρ fun kvs _=>((o (M++[⟨"",[]⟩]) ρ).at (M++[⟨"",[]⟩])).then ρ fun od M2=>match jW M2 od with
 |some (h,i)=>match ft.has i.cls f&&decide (i.fs.length < 100) with
  |true=>.next ρ (M2.set h (i.put f (.dic true kvs)))
  |false=>.bad
 |none=>.bad:=rfl
@[simp]theorem anD (o:QF) (e:GF):Dk f o e M ρ=((o M ρ).at M).then ρ fun od M0=>match Ea M0 f od with
 |some (_,_,n,_)=>(e M0 ρ).then ρ fun d M1=>match Ea M1 f od with
  |some (h,i,n',xs)=>match n==n'&&decide (xs.length < 100000) with
   |true=>.next ρ (M1.set h (i.put f (.lst n (xs++[d]))))
   |false=>.bad
  |none=>.bad
 |none=>.bad:=rfl
@[simp]theorem an9 (o fi e:QF):Ql f o fi e M ρ=((e M ρ).at M).then ρ fun d _=>((o M ρ).at M).then ρ fun od _=>match Ea M f od with
 |some (h,i,n,xs)=>((fi M ρ).at M).then ρ fun k _=>match k with
  |.int k=>match ixN xs.length k with
   |some j=>.next ρ (M.set h (i.put f (.lst n (xs.set j d))))
   |none=>.bad
  |_=>.bad
 |none=>.bad:=rfl
@[simp]theorem anQ (ft:Ft) (o e:QF):PL ft f o e M ρ=((o M ρ).at M).then ρ fun od _=>match jW M od with
 |some (h,i)=>match i.fs.lookup f,ft.has i.cls f&&decide (i.fs.length < 100) with
  |some (.dat (.int a)),true=>((e M ρ).at M).then ρ fun d _=>match d with
   |.int b=>.next ρ (M.set h (i.put f (.dat (.int (a+b)))))
   |_=>.bad
  |_,_=>.bad
 |none=>.bad:=rfl
theorem agG(d:Dat):Ea M f d=(jW M d).bind fun p=>match p.2.fs.lookup f with
 |some (.lst n xs)=>some (p.1,p.2,n,xs)
 |_=>none:=rfl
@[simp]theorem anN:Ea M f (ob h)=(M[h]?).bind fun i=>match i.cls=="" with
 |true=>none
 |false=>match i.fs.lookup f with
  |some (.lst n xs)=>some (h,i,n,xs)
  |_=>none:=by
 rw[agG,Xb]
 cases M[h]? with
 |none=>rfl
 |some i=>
  show(match i.cls=="" with
   |true=>none
   |false=>some (h,i)).bind _=(match i.cls=="" with
   |true=>none
   |false=>_)
  cases i.cls=="" <;> rfl
@[simp]theorem aob (i:Inst) (x:iW):i.put f x=⟨i.cls,putL f x i.fs⟩:=rfl
@[simp]theorem aqh (x:iW):putL f x []=[(f,x)]:=rfl
@[simp]theorem aqs (x y:iW) (g:Str) (r:List (Str×iW)):putL f x ((g,y)::r)=if g=f then(g,x)::r else(g,y)::putL f x r:=rfl
@[simp]theorem an3 (ft:Ft) (c:Str):Ft.has ft c f=match ft.lookup c with
 |some fs=>fs.contains f
 |none=>false:=rfl
@[simp]theorem anC:yF M f (ob h)=(M[h]?).bind fun i=>match i.cls=="" with
 |true=>none
 |false=>match i.fs.lookup f with
  |some (.dic b kvs)=>some (h,i,b,kvs)
  |_=>none:=by
 show(jW M (ob h)).bind _=_
 rw[Xb]
 cases M[h]? with
 |none=>rfl
 |some i=>
  show(match i.cls=="" with
   |true=>none
   |false=>some (h,i)).bind _=(match i.cls=="" with
   |true=>none
   |false=>_)
  cases i.cls=="" <;> rfl
@[simp]theorem aoV (neg:Bool) (k o:QF):Oe neg f k o M ρ=(k M ρ).bind fun d=>(o M ρ).bind fun od=>match yF M f od with
 |some (_,_,b,kvs)=>(dhas b kvs d).bind fun r=>.ok (.bool (neg ^^ r))
 |none=>.bad:=rfl
@[simp]theorem anL (o k e:QF):Mq f o k e M ρ=((e M ρ).at M).then ρ fun v _=>((o M ρ).at M).then ρ fun od _=>match yF M f od with
 |some (h,i,b,kvs)=>((k M ρ).at M).then ρ fun d _=>match dhas b kvs d,decide (kvs.length < 100000) with
  |.ok false,true=>.next ρ (M.set h (i.put f (.dic b (kvs++[(d,v)]))))
  |_,_=>.bad
 |none=>.bad:=rfl
@[simp]theorem anh (o k:QF):Ln f o k M ρ=((o M ρ).at M).then ρ fun od _=>match yF M f od with
 |some (h,i,b,kvs)=>((k M ρ).at M).then ρ fun d _=>match dhas b kvs d,decide (kvs.length<=100000) with
  |.ok true,true=>.next ρ (M.set h (i.put f (.dic b (kvs.filter fun p=>!PyData.eqv p.1 d))))
  |_,_=>.bad
 |none=>.bad:=rfl
@[simp]theorem ana (o:QF):BK f o M ρ=(o M ρ).bind fun od=>match yF M f od with
 |some (_,_,true,kvs)=>.ok (kvs.map (·.1))
 |_=>.bad:=rfl
@[simp]theorem am2 (o:QF):BX f o M ρ=(o M ρ).bind fun od=>match yF M f od with
 |some (_,_,_,kvs)=>.ok (.list (kvs.map (·.1)))
 |none=>.bad:=rfl
@[simp]theorem aqm (it:IF) (tg:fK) (vs:List Nat) (tk:QF):qDc it tg vs tk M ρ=(it M ρ).bind fun ds=>Out.when (decide (ds.length<=50000)) (CZ tg tk M (cC ρ vs) ds []):=rfl
@[simp]theorem am8 (kvs:List (Dat×Dat)) (i:Int):dhas false kvs (.int i)=.ok (kvs.any fun p=>PyData.eqv p.1 (.int i)):=rfl
@[simp]theorem aoQ (neg:Bool) (kvs:List (Str×Dat)) (k:QF):T9 neg kvs k M ρ=(k M ρ).bind fun d=>match d with
 |.str x=>.ok (.bool (neg ^^ (kvs.lookup x).isSome))
 |_=>.bad:=rfl
@[simp]theorem aor (kvs:List (Str×Dat)) (k:QF):aci kvs k M ρ=(k M ρ).bind fun d=>match d with
 |.str x=>match kvs.lookup x with
  |some y=>.ok y
  |none=>.bad
 |_=>.bad:=rfl
@[simp]theorem amS (it:IF) (tg:fK) (vs:List Nat) (tt:QT) (it1:IF) (tg1:fK) (vs1:List Nat) (tt1:QT) (te:QF):Ce it tg vs tt it1 tg1 vs1 tt1 te M ρ=((it M ρ).bind fun ds=>(gJ tg tt it1 tg1 vs1 tt1 te M (cC ρ vs) ds).bind fun r=>Out.when (decide (r.length<=50000)) (.ok r)).bind fun r=>.ok (.list r):=rfl
@[simp]theorem ama (it:IF) (tg:fK) (vs:List Nat) (tt:QT) (te:QF):ahY it tg vs tt te M ρ=((it M ρ).bind fun ds=>Out.when (decide (ds.length<=50000)) (dh tg tt te M (cC ρ vs) ds)).bind fun ds=>match intsOf ds with
 |some l=>Out.when (decide (l.length<=4000)) (.ok (.list ((afX l).map PyData.int)))
 |none=>.bad:=rfl
@[simp]theorem al9 {α:Type} (k g:Str) (y:α) (r:List (Str×α)):List.lookup k ((g,y)::r)=if k=g then some y else List.lookup k r:=by
 rw[aq6]
 by_cases e:k=g
 ·subst e
  simp
 ·have:(k==g)=false:=by simpa using e
  rw[this,if_neg e]
end
end Rf
namespace Pr
open PySem PySem.Spec PyProof.Rows L2 Evl Rf
def xV:SF:=
 (aD (CT jU (ao 0) "allowances" (Rz au))
 (CT jU (ao 0) "circles" (Rz au)))
def uE:Mo->List Dat->aZ Dat:=mG 1 xV
def Aj:SF:=
 (Lq jU (ao 0) "held" true)
def uY:Mo->List Dat->aZ Dat:=mG 1 Aj
def Eb:SF:=
 (CT jU (ao 0) "beasts" (Rz au))
def yU:Mo->List Dat->aZ Dat:=mG 1 Eb
def xX:SF:=
 (aD (uF jU (ao 0) "owner_count" (gOf (qC (.int 0))))
 (aD (Lq jU (ao 0) "holders" false)
 (aD (uF jU (ao 0) "grounds" (zY "Grounds" uE au))
 (aD (uF jU (ao 0) "rights" (zY "Rights" uY au))
 (uF jU (ao 0) "herd" (zY "Herd" yU au))))))
def lW:Mo->List Dat->aZ Dat:=mG 1 xX
def zX:SF:=
 (aQ (bA (ak (gq "owner" (ao 0)) (ak (gq "ground" (ao 0)) (ak (gq "due" (ao 0)) (ak (gq "ear" (ao 0)) (ak (gq "alive" (ao 0)) au)))))))
def vf:Mo->List Dat->Out Dat:=mQ 1 zX
def lO:List (Str×MV):=[("Beast",.q 1 vf)]
def Bt:SF:=
 (aQ (aA dY (aP lO (ao 0) au) (bA (ak (gq "mother" (ao 0)) (ak (fH mF (bJ "story" (ao 0))) au)))))
def wZ:Mo->List Dat->Out Dat:=mQ 1 Bt
def vK:SF:=
 (aQ (BX "holders" (ao 0)))
def qp:Mo->List Dat->Out Dat:=mQ 1 vK
def uJ:SF:=
 (aQ (BX "held" (ao 0)))
def oV:Mo->List Dat->Out Dat:=mQ 1 uJ
def tV:SF:=
 (aQ (fH oN (bJ "allowances" (ao 0))))
def o7:Mo->List Dat->Out Dat:=mQ 1 tV
def eG:List (Str×MV):=[("Grounds",.q 1 o7)]
def Ak:SF:=
 (aQ (VL (lE rP rP (qC (.int 1)) (ao 1) (aP eG (ao 0) au))))
def vh:Mo->List Dat->Out Dat:=mQ 2 Ak
def yI:List (Str×MV):=[("Grounds",.q 2 vh)]
def yw:SF:=
 (bO (jJ (jd (aP yI (ao 0) (ak (aq 1) au)))) (dZ "NoGround") aR)
def ux:Mo->List Dat->Out Dat:=mQ 2 yw
def aG:List (Str×MV):=[("Grounds",.q 2 ux)]
def mK:SF:=
 (aD (cH (gOf (aP aG (ao 0) (ak (aq 1) au))))
 (aQ (aA aU (bJ "allowances" (ao 0)) (aA lg (ao 1) (qC (.int 1))))))
def jK:Mo->List Dat->Out Dat:=mQ 2 mK
def nR:SF:=
 (aD (cH (gOf (aP aG (ao 0) (ak (aq 1) au))))
 (aQ (fH Ma (aA aU (bJ "circles" (ao 0)) (aA lg (ao 1) (qC (.int 1)))))))
def j6:Mo->List Dat->Out Dat:=mQ 2 nR
def bB:List (Str×MV):=[("Grounds",.q 2 j6)]
def oA:SF:=
 (aQ (aP bB (bJ "grounds" (ao 0)) (ak (aq 1) au)))
def j5:Mo->List Dat->Out Dat:=mQ 2 oA
def sE:List (Str×MV):=[("Rights",.q 1 oV)]
def uL:List (Str×MV):=[("Commons",.q 1 qp)]
def uZ:List (Str×MV):=[("Beast",.q 1 wZ)]
def bQ:List (Str×MV):=[("Commons",.q 2 j5)]
def dO:List (Str×MV):=[("Grounds",.q 2 jK)]
def xU:SF:=
 (aD (aW (aF 1) (gOf (fu (Bm (qC (.int 1)) (aA dY (aP eG (bJ "grounds" (ao 0)) au) (qC (.int 1)))) (aF 3) [3] jf (bA (ak (aP dO (bJ "grounds" (ao 0)) (ak (aq 3) au)) (ak (fH mF (aP bQ (ao 0) (ak (aq 3) au))) au))))))
 (aD (aW (aF 2) (gOf (fu (dw (bJ "beasts" (bJ "herd" (ao 0)))) (aF 4) [4] jf (aP uZ (ao 4) au))))
 (aQ (bA (ak (aP uL (ao 0) au) (ak (aq 1) (ak (aP sE (bJ "rights" (ao 0)) au) (ak (aq 2) au))))))))
def pN:Mo->List Dat->Out Dat:=mQ 5 xU
def SM:SF:=
 (aD (aW (aF 5) (gOf (aA jP (aA dY (aA dY (aA wM (ao 5) (qC (.int 48271))) (aA wM (qC (.int 9973)) (ao 4))) (qC (.int 11))) (qC (.int 2147483647)))))
 (Og 3 (aA jP (aA Af (ao 5) (qC (.int 1021))) (ao 2))))
def Tw:SF:=
 (aD (Og 3 (aA jP (ao 0) (ao 2)))
 (aW (aF 0) (gOf (aA Af (ao 0) (ao 2)))))
def ab2:SF:=
 (aD (Hu 3 (Rz au))
 (aD (aW (aF 0) (gOf (fH Ss (ao 0))))
 (aD (bO (bx (aA geD (ao 0) (aA Oh (qC (.int 10)) (qC (.int 18))))) (aD (sW (yg (ao 1)) (aF 4) Tw)
 (aQ (aq 3))) aR)
 (aD (aW (aF 5) (gOf (aA jP (aA wM (aA dY (aA jP (ao 0) (qC (.int 1000003))) (qC (.int 17))) (qC (.int 69621))) (qC (.int 2147483647)))))
 (aD (sW (yg (ao 1)) (aF 4) SM)
 (aQ (aq 3)))))))
def u9:Mo->List Dat->Out Dat:=mQ 6 ab2
def O2:SF:=
 (aD (bO (bx (aA bZ (aA jP (ao 1) (qC (.int 4))) (qC (.int 1)))) (aQ (fH mF (fu (dw (ao 0)) (aF 2) [2] jf (aA u5 (qC (.int 0)) (aA lg (ao 2) (qC (.int 7))))))) aR)
 (aD (bO (bx (aA bZ (aA jP (ao 1) (qC (.int 4))) (qC (.int 2)))) (aQ (fH mF (fu (dw (ao 0)) (aF 2) [2] jf (aA jP (ao 2) (qC (.int 3)))))) aR)
 (aQ (fH mF (ao 0)))))
def sO:Mo->List Dat->Out Dat:=mQ 3 O2
def abw:SF:=
 (aD (aW (aF 1) (gOf (aY u9 (ak (aq 0) (ak (qC (.int 7)) (ak (qC (.int 10)) au))))))
 (aQ (aY sO (ak (Cg (ao 1) pq (kE (qC (.int 6)))) (ak (aA aU (ao 1) (qC (.int 6))) au)))))
def Ik:Mo->List Dat->Out Dat:=mQ 2 abw
def Eh:SF:=
 (aD (bO (bx (aA bZ (aA jP (ao 0) (qC (.int 8))) (qC (.int 7)))) (aQ (Ae au)) aR)
 (aD (aW (aF 1) (gOf (Ae (ak (bA (ak (qC (.str "ground")) (ak (qC (.int 0)) (ak (qC (.int 0)) au)))) (ak (bA (ak (qC (.str "owner")) (ak (qC (.int 0)) (ak (qC (.int 0)) au)))) (ak (bA (ak (qC (.str "owner")) (ak (qC (.int 0)) (ak (qC (.int 0)) au)))) (ak (bA (ak (qC (.str "enrol")) (ak (qC (.int 0)) (ak (qC (.int 0)) au)))) (ak (bA (ak (qC (.str "enrol")) (ak (qC (.int 1)) (ak (qC (.int 0)) au)))) au))))))))
 (aD (aW (aF 1) (gOf (aA dY (ao 1) (Ae (ak (bA (ak (qC (.str "bring")) (ak (qC (.int 0)) (ak (qC (.int 0)) au)))) (ak (bA (ak (qC (.str "cut")) (ak (qC (.int 0)) (ak (qC (.int 0)) au)))) (ak (bA (ak (qC (.str "bring")) (ak (qC (.int 1)) (ak (qC (.int 0)) au)))) (ak (bA (ak (qC (.str "cut")) (ak (qC (.int 1)) (ak (qC (.int 0)) au)))) (ak (bA (ak (qC (.str "ground")) (ak (qC (.int 0)) (ak (qC (.int 0)) au)))) (ak (bA (ak (qC (.str "enrol")) (ak (qC (.int 0)) (ak (qC (.int 1)) au)))) au))))))))))
 (aQ (aq 1)))))
def uM:Mo->List Dat->Out Dat:=mQ 2 Eh
def Kf:SF:=
 (aD (aW (aF 1) (gOf (Ae (ak (qC (.str "tear")) (ak (qC (.str "cut")) (ak (qC (.str "bring")) (ak (qC (.str "sell")) (ak (qC (.str "move")) (ak (qC (.str "enrol")) (ak (qC (.str "bear")) (ak (qC (.str "tear")) (ak (qC (.str "cut")) (ak (qC (.str "sell")) (ak (qC (.str "move")) (ak (qC (.str "unite")) (ak (qC (.str "part")) au))))))))))))))))
 (aD (aW (aF 1) (gOf (aA dY (ao 1) (Ae (ak (qC (.str "heir")) (ak (qC (.str "pass")) (ak (qC (.str "die")) (ak (qC (.str "leave")) (ak (qC (.str "ground")) (ak (qC (.str "owner")) (ak (qC (.str "enrol")) (ak (qC (.str "tear")) (ak (qC (.str "sell")) (ak (qC (.str "bring")) (ak (qC (.str "bear")) (ak (qC (.str "cut")) au))))))))))))))))
 (aQ (aA aU (ao 1) (aA jP (ao 0) (qC (.int 25)))))))
def zE:Mo->List Dat->Out Dat:=mQ 2 Kf
def lH:SF:=
 (bO (bx (Oe true "holders" (aq 1) (ao 0))) (dZ "NoOwner") aR)
def jw:Mo->List Dat->Out Dat:=mQ 2 lH
def yJ:SF:=
 (aQ (fu (BK "held" (ao 0)) (bL [3,4,5]) [3,4,5] (kY (bx (aA bZ (ao 3) (ao 1))) (bx (aA bZ (ao 4) (ao 2)))) (aq 5)))
def uz:Mo->List Dat->Out Dat:=mQ 6 yJ
def cJ:List (Str×MV):=[("Rights",.q 3 uz)]
def sV:SF:=
 (aQ (aA YJ (fH oN (aP cJ (ao 0) (ak (aq 1) (ak (aq 2) au)))) (qC (.int 0))))
def nJ:Mo->List Dat->Out Dat:=mQ 3 sV
def rA:List (Str×MV):=[("Rights",.q 3 nJ)]
def ql:SF:=
 (bO (jJ (jd (aP rA (bJ "rights" (ao 0)) (ak (aq 1) (ak (aq 2) au))))) (dZ "NoRight") aR)
def lG:Mo->List Dat->Out Dat:=mQ 3 ql
def rC:SF:=
 (aD (PL jU "owner_count" (ao 0) (qC (.int 1)))
 (aD (Mq "holders" (ao 0) (gq "owner_count" (ao 0)) (qC (.bool true)))
 (aQ (gq "owner_count" (ao 0)))))
def ig:Mo->List Dat->aZ Dat:=mG 1 rC
def nQ:SF:=
 (aD (aW (aF 4) (gOf (bA (ak (aq 1) (ak (aq 2) (ak (aq 3) au))))))
 (aD (bO (bx (Oe false "held" (aq 4) (ao 0))) (dZ "HasRight") aR)
 (Mq "held" (ao 0) (aq 4) (qC (.bool true)))))
def iU:Mo->List Dat->aZ Dat:=mG 5 nQ
def Bv:SF:=
 (aW (aF 2) (gOf (Ce (dw (ao 2)) (bL [4,5]) [4,5,6] jf (Bm (ao 3) (aA dY (aA Ij (aA dY (ao 3) (ao 5)) (qC cQ)) (qC (.int 1)))) (aF 6) [6] jf (bA (ak (aA dY (ao 4) (bA (ak (aq 6) au))) (ak (aA lg (ao 5) (aA lg (ao 6) (ao 3))) au))))))
def Zz:SF:=
 (aD (aW (aF 2) (gOf (Ae (ak (bA (ak (bA au) (ak (aq 1) au))) au))))
 (aD (sW (dw (aq 0)) (aF 3) Bv)
 (aQ (fu (dw (ao 2)) (bL [4,5]) [4,5] jf (aq 4)))))
def KR:Mo->List Dat->Out Dat:=mQ 7 Zz
def Tv:SF:=
 (aQ (fH YZ (fu (JK (ao 0) (ao 1)) (bL [2,3]) [2,3] (bx (aA YJ (ao 3) (ao 2))) (aA lg (ao 3) (ao 2)))))
def tY:Mo->List Dat->Out Dat:=mQ 4 Tv
def Ed:SF:=
 (aQ (fu (dw (aY KR (ak (aq 0) (ak (aq 1) au)))) (aF 2) [2] (bx (aA bZ (aY tY (ak (aq 0) (ak (aq 2) au))) (ao 1))) (aq 2)))
def uR:Mo->List Dat->Out Dat:=mQ 3 Ed
def RN:SF:=
 (aQ (aA u5 (aY tY (ak (aq 0) (ak (aq 1) au))) (aY tY (ak (aq 1) (ak (aq 0) au)))))
def Gn:Mo->List Dat->Out Dat:=mQ 2 RN
def Xc:SF:=
 (aQ (aA rP (aY Gn (ak (aq 0) (ak (aq 1) au))) (ao 2)))
def qN:Mo->List Dat->Out Dat:=mQ 3 Xc
def jQ:SF:=
 (bO (jJ (jd (fH Oq (fu (dw (ao 2)) (bL [5,6]) [5,6] jf (aY qN (ak (aq 4) (ak (aq 6) (ak (aq 3) au)))))))) (aQ (aq 4)) aR)
def wL:SF:=
 (aD (sW (dw (aY uR (ak (aq 0) (ak (aq 1) au)))) (aF 4) jQ)
 (dZ "NoneFree"))
def o9:Mo->List Dat->Out Dat:=mQ 7 wL
def qD:SF:=
 (aQ (aA aU (aP cJ (bJ "rights" (ao 0)) (ak (aq 1) (ak (aq 2) au))) (qC (.int 0))))
def lK:Mo->List Dat->Out Dat:=mQ 3 qD
def Nr:SF:=
 (aQ (fH Qv (ao 0)))
def pZ:Mo->List Dat->Out Dat:=mQ 1 Nr
def uK:SF:=
 (aQ (fu (yM 1 (bJ "beasts" (ao 0))) (bL [1,2]) [1,2] (jd (bJ "alive" (ao 2))) (bA (ak (aq 1) (ak (aq 2) au)))))
def oU:Mo->List Dat->Out Dat:=mQ 3 uK
def dN:List (Str×MV):=[("Herd",.q 1 oU)]
def yc:SF:=
 (aQ (fu (dw (aP dN (ao 0) au)) (bL [2,3]) [2,3] (bx (aA (inD false) (bJ "ground" (ao 3)) (ao 1))) (bA (ak (aq 2) (ak (aq 3) au)))))
def pJ:Mo->List Dat->Out Dat:=mQ 4 yc
def qZ:SF:=
 (aQ (fu (BK "held" (ao 0)) (bL [2,3,4]) [2,3,4] (bx (aA (inD false) (ao 3) (ao 1))) (bA (ak (aq 2) (ak (aq 4) au)))))
def mV:Mo->List Dat->Out Dat:=mQ 5 qZ
def pX:List (Str×MV):=[("Rights",.q 2 mV)]
def jh:List (Str×MV):=[("Herd",.q 2 pJ)]
def jV:SF:=
 (aD (aW (aF 3) (gOf (aP bQ (ao 0) (ak (aq 2) au))))
 (aD (aW (aF 4) (gOf (fu (dw (aP jh (bJ "herd" (ao 0)) (ak (aq 3) au))) (bL [5,6]) [5,6] (kY (bx (xP true .none (bJ "due" (ao 6)))) (bx (aA Cm (ao 5) (ao 1)))) (bA (ak (gq "owner" (ao 6)) (ak (gq "due" (ao 6)) au))))))
 (aQ (aY pZ (ak (aA dY (aP pX (bJ "rights" (ao 0)) (ak (aq 3) au)) (ao 4)) au)))))
def iz:Mo->List Dat->Out Dat:=mQ 7 jV
def cX:List (Str×MV):=[("Commons",.q 3 iz)]
def oE:SF:=
 (aQ (aP cX (ao 0) (ak (qC (.int 0)) (ak (aq 1) au))))
def jY:Mo->List Dat->Out Dat:=mQ 2 oE
def uo:SF:=
 (aQ (fH maxD (fu (dw (aP bB (ao 0) (ak (aq 1) au))) (aF 2) [2] jf (aP dO (ao 0) (ak (aq 2) au)))))
def pO:Mo->List Dat->Out Dat:=mQ 3 uo
def rH:List (Str×MV):=[("Grounds",.q 2 pO)]
def tM:SF:=
 (aQ (aP rH (bJ "grounds" (ao 0)) (ak (aq 1) au)))
def pF:Mo->List Dat->Out Dat:=mQ 2 tM
def iy:List (Str×MV):=[("Rights",.g 4 iU)]
def gG:List (Str×MV):=[("Commons",.g 1 ig)]
def bY:List (Str×MV):=[("Commons",.q 2 pF)]
def cD:List (Str×MV):=[("Commons",.q 2 jY)]
def bR:List (Str×MV):=[("Commons",.q 3 lK)]
def aJ:List (Str×MV):=[("Commons",.q 3 lG)]
def aC:List (Str×MV):=[("Commons",.q 2 jw)]
def dI:SF:=
 (aD (cH (gOf (aP aC (ao 0) (ak (aq 1) au))))
 (aD (cH (gOf (aP aG (bJ "grounds" (ao 0)) (ak (aq 2) au))))
 (aD (bO (jJ (lE rP rP (qC iQ) (ao 3) (qC jZ))) (dZ "BadExtra") aR)
 (aD (cH (gOf (aP aJ (ao 0) (ak (aq 1) (ak (aq 2) au)))))
 (aD (aW (aF 4) (gOf (aY o9 (ak (aP bR (ao 0) (ak (aq 1) (ak (aq 2) au))) (ak (aq 3) (ak (aP cD (ao 0) (ak (aq 2) au)) (ak (aP bY (ao 0) (ak (aq 2) au)) au)))))))
 (aD (aW (aF 5) (cM gG (ao 0) au))
 (aD (cH (cM iy (bJ "rights" (ao 0)) (ak (aq 5) (ak (aq 2) (ak (aq 4) au)))))
 (aQ (bA (ak (aq 5) (ak (aq 4) au)))))))))))
def cR:Mo->List Dat->aZ Dat:=mG 6 dI
def jm:SF:=
 (aD (bO (jJ (lE rP rP (qC (.int 0)) (ao 1) (qC gj))) (dZ "BadAllowance") aR)
 (aD (Dk "allowances" (ao 0) (gOf (aq 1)))
 (aD (Dk "circles" (ao 0) (gOf (bA (ak (aP eG (ao 0) au) au))))
 (aQ (aP eG (ao 0) au)))))
def eU:Mo->List Dat->aZ Dat:=mG 2 jm
def kW:List (Str×MV):=[("Grounds",.g 2 eU)]
def lJ:SF:=
 (gY (cM kW (bJ "grounds" (ao 0)) (ak (aq 1) au)))
def gD:Mo->List Dat->aZ Dat:=mG 2 lJ
def K7:SF:=
 (aQ (fu (dw (aY pZ (ak (aq 2) au))) (bL [4,5]) [4,5] (kY (bx (aA Cm (ao 4) (ao 0))) (jd (aY qN (ak (aq 1) (ak (aq 5) (ak (aq 3) au)))))) (bA (ak (aq 4) (ak (aq 5) au)))))
def zA:Mo->List Dat->Out Dat:=mQ 6 K7
def TY:SF:=
 (aQ (fH mF (fu (JK (ao 0) (ao 1)) (bL [2,3]) [2,3] jf (aA u5 (ao 2) (ao 3)))))
def oZ:Mo->List Dat->Out Dat:=mQ 4 TY
def Ba:SF:=
 (aD (aW (aF 4) (gOf (aY zA (ak (aq 0) (ak (aq 1) (ak (aq 2) (ak (aq 3) au)))))))
 (bO (jd (ao 4)) (aD (aW (bL [5,6]) (gOf (aA aU (ao 4) (qC (.int 0)))))
 (Bo "Clash" ["ones","others","ear"] (ak (bA (ak (aq 0) (ak (aq 1) au))) (ak (bA (ak (aq 5) (ak (aq 6) au))) (ak (aY oZ (ak (aq 1) (ak (aq 6) au))) au))))) aR))
def oG:Mo->List Dat->Out Dat:=mQ 7 Ba
def lM:SF:=
 (cH (gOf (aY oG (ak (aq 1) (ak (aq 2) (ak (aP cD (ao 0) (ak (aq 3) au)) (ak (aP bY (ao 0) (ak (aq 3) au)) au)))))))
def gA:Mo->List Dat->Out Dat:=mQ 4 lM
def Ie:SF:=
 (aQ (wB (aA bZ (fH oN (ao 0)) (fH oN (qC iI))) (fH O7 (fu (dw (ao 0)) (aF 1) [1] jf (VL (lE rP rP (qC (.int 0)) (ao 1) (qC cQ)))))))
def tK:Mo->List Dat->Out Dat:=mQ 2 Ie
def Hg:SF:=
 (bO (jJ (jd (aY tK (ak (aq 0) au)))) (dZ "BadEar") aR)
def qm:Mo->List Dat->Out Dat:=mQ 1 Hg
def bT:List (Str×MV):=[("Commons",.q 4 gA)]
def fQ:SF:=
 (aD (cH (gOf (aP aC (ao 0) (ak (aq 1) au))))
 (aD (cH (gOf (aP aG (bJ "grounds" (ao 0)) (ak (aq 2) au))))
 (aD (cH (gOf (aY qm (ak (aq 3) au))))
 (aD (bO (bx (aA bZ (ao 3) (qC jr))) (dZ "Bare") aR)
 (aD (bO (bx (aA (inD false) (ao 3) (aP cJ (bJ "rights" (ao 0)) (ak (aq 1) (ak (aq 2) au))))) (dZ "HasRight") aR)
 (aD (cH (gOf (aP bT (ao 0) (ak (aq 1) (ak (aq 3) (ak (aq 2) au))))))
 (cH (cM iy (bJ "rights" (ao 0)) (ak (aq 1) (ak (aq 2) (ak (aq 3) au)))))))))))
def dU:Mo->List Dat->aZ Dat:=mG 4 fQ
def wH:SF:=
 (Ln "held" (ao 0) (bA (ak (aq 1) (ak (aq 2) (ak (aq 4) au)))))
def vo:SF:=
 (aD (aW (aF 3) (gOf (aP cJ (ao 0) (ak (aq 1) (ak (aq 2) au)))))
 (aD (bO (jJ (jd (ao 3))) (dZ "NoRight") aR)
 (aD (sW (dw (aq 3)) (aF 4) wH)
 (aQ (aq 3)))))
def m9:Mo->List Dat->aZ Dat:=mG 5 vo
def yq:List (Str×MV):=[("Rights",.g 3 m9)]
def jk:SF:=
 (aD (cH (gOf (aP aC (ao 0) (ak (aq 1) au))))
 (aD (cH (gOf (aP aG (bJ "grounds" (ao 0)) (ak (aq 2) au))))
 (aD (cH (gOf (aP aJ (ao 0) (ak (aq 1) (ak (aq 2) au)))))
 (aD (bO (jd (fH Oq (fu (dw (aP jh (bJ "herd" (ao 0)) (ak (Ae (ak (aq 2) au)) au))) (bL [3,4]) [3,4] jf (aA bZ (bJ "owner" (ao 4)) (ao 1))))) (dZ "StillThere") aR)
 (gY (cM yq (bJ "rights" (ao 0)) (ak (aq 1) (ak (aq 2) au))))))))
def fP:Mo->List Dat->aZ Dat:=mG 5 jk
def qw:SF:=
 (aD (aW (bL [2,3,4,5,6]) (gOf (aq 1)))
 (aD (uF jU (ao 0) "owner" (gOf (aq 2)))
 (aD (uF jU (ao 0) "ground" (gOf (aq 3)))
 (aD (uF jU (ao 0) "due" (gOf (aq 4)))
 (aD (uF jU (ao 0) "ear" (gOf (aq 5)))
 (uF jU (ao 0) "alive" (gOf (aq 6))))))))
def lZ:Mo->List Dat->aZ Dat:=mG 7 qw
def Lz:SF:=
 (aD (bO (bx (aA bZ (aA aU (ao 0) (qC (.int 0))) (qC (.str "born")))) (aD (aW (bL [1,2,3,4]) (gOf (aq 0)))
 (aQ (bA (ak (aq 3) (ak (aq 4) (ak (qC .none) (ak (qC jr) (ak (qC (.bool true)) au)))))))) aR)
 (aD (aW (bL [1,3,4,5]) (gOf (aq 0)))
 (aQ (bA (ak (aq 3) (ak (aq 4) (ak (qC .none) (ak (aq 5) (ak (qC (.bool true)) au)))))))))
def Bq:Mo->List Dat->Out Dat:=mQ 6 Lz
def jD:List (Str×MV):=[("Beast",.g 2 lZ)]
def Cz:SF:=
 (aD (CT jU (ao 0) "story" (Rz (ak (aq 1) au)))
 (aD (uF jU (ao 0) "mother" (gOf (Qu (bx (aA bZ (aA aU (ao 1) (qC (.int 0))) (qC (.str "born")))) (aA aU (ao 1) (qC (.int 1))) (qC (.int 0)))))
 (cH (cM jD (ao 0) (ak (aY Bq (ak (aq 1) au)) au)))))
def tL:Mo->List Dat->aZ Dat:=mG 2 Cz
def vA:SF:=
 (aD (Dk "beasts" (ao 0) (zY "Beast" tL (ak (aq 1) au)))
 (aQ (fH oN (bJ "beasts" (ao 0)))))
def qb:Mo->List Dat->aZ Dat:=mG 2 vA
def jB:List (Str×MV):=[("Herd",.g 2 qb)]
def ji:SF:=
 (aD (cH (gOf (aP aC (ao 0) (ak (aq 1) au))))
 (aD (cH (gOf (aP aG (bJ "grounds" (ao 0)) (ak (aq 2) au))))
 (aD (cH (gOf (aY qm (ak (aq 3) au))))
 (aD (cH (gOf (aP aJ (ao 0) (ak (aq 1) (ak (aq 2) au)))))
 (gY (cM jB (bJ "herd" (ao 0)) (ak (bA (ak (qC (.str "brought")) (ak (aq 1) (ak (aq 2) (ak (aq 3) au))))) au)))))))
def fW:Mo->List Dat->aZ Dat:=mG 4 ji
def sS:SF:=
 (aD (bO (jJ (lE rP rP (qC (.int 1)) (ao 1) (fH oN (bJ "beasts" (ao 0))))) (dZ "NoBeast") aR)
 (aQ (aA aU (bJ "beasts" (ao 0)) (aA lg (ao 1) (qC (.int 1))))))
def kh:Mo->List Dat->Out Dat:=mQ 2 sS
def fj:List (Str×MV):=[("Herd",.q 2 kh)]
def vq:SF:=
 (aD (aW (aF 2) (gOf (aP fj (ao 0) (ak (aq 1) au))))
 (aD (bO (jJ (jd (bJ "alive" (ao 2)))) (dZ "Dead") aR)
 (aQ (aq 2))))
def qM:Mo->List Dat->Out Dat:=mQ 3 vq
def bG:List (Str×MV):=[("Herd",.q 2 qM)]
def qI:SF:=
 (aD (aW (aF 2) (gOf (aP bG (ao 0) (ak (aq 1) au))))
 (aD (bO (bx (xP false .none (bJ "due" (ao 2)))) (dZ "Unmarked") aR)
 (aQ (aq 2))))
def nu:Mo->List Dat->Out Dat:=mQ 3 qI
def bh:List (Str×MV):=[("Herd",.q 2 nu)]
def lU:SF:=
 (aD (aW (aF 2) (gOf (aP bh (bJ "herd" (ao 0)) (ak (aq 1) au))))
 (gY (cM jB (bJ "herd" (ao 0)) (ak (bA (ak (qC (.str "born")) (ak (aq 1) (ak (gq "owner" (ao 2)) (ak (gq "ground" (ao 2)) au))))) au))))
def iZ:Mo->List Dat->aZ Dat:=mG 3 lU
def Hf:SF:=
 (aQ (fH mF (fu (yM 0 (ao 0)) (bL [2,3]) [2,3] jf (Qu (bx (aA bZ (ao 2) (ao 1))) (aA dY (ao 3) (qC (.int 1))) (aq 3)))))
def wO:Mo->List Dat->Out Dat:=mQ 4 Hf
def JF:SF:=
 (aD (aW (bL [2,3,4,5,6]) (gOf (aq 0)))
 (aD (aW (aF 7) (gOf (aA aU (ao 1) (qC (.int 0)))))
 (aD (bO (bx (aA bZ (ao 7) (qC (.str "cut")))) (Q6 4 5 (gOf (aA aU (ao 1) (qC (.int 1))))) (bO (bx (aA bZ (ao 7) (qC (.str "torn")))) (aW (aF 5) (gOf (aY wO (ak (aq 5) (ak (aA aU (ao 1) (qC (.int 1))) au))))) (bO (bx (aA bZ (ao 7) (qC (.str "sold")))) (aD (aW (aF 2) (gOf (aA aU (ao 1) (qC (.int 1)))))
 (Q6 4 5 (gOf (aA aU (ao 1) (qC (.int 2)))))) (bO (bx (aA bZ (ao 7) (qC (.str "moved")))) (aW (aF 3) (gOf (aA aU (ao 1) (qC (.int 1))))) (bO (bx (aA bZ (ao 7) (qC (.str "followed")))) (aD (aW (aF 2) (gOf (aA aU (ao 1) (qC (.int 1)))))
 (aW (aF 3) (gOf (aA aU (ao 1) (qC (.int 2)))))) (bO (bx (aA bZ (ao 7) (qC (.str "passed")))) (aW (aF 2) (gOf (aA aU (ao 1) (qC (.int 1))))) (bO (bx (aA bZ (ao 7) (qC (.str "died")))) (aW (aF 6) (gOf (qC (.bool false)))) aR)))))))
 (aQ (bA (ak (aq 2) (ak (aq 3) (ak (aq 4) (ak (aq 5) (ak (aq 6) au))))))))))
def yZ:Mo->List Dat->Out Dat:=mQ 8 JF
def yK:SF:=
 (aD (Dk "story" (ao 0) (gOf (aq 1)))
 (cH (cM jD (ao 0) (ak (aY yZ (ak (aP lO (ao 0) au) (ak (aq 1) au))) au))))
def lQ:Mo->List Dat->aZ Dat:=mG 2 yK
def bK:List (Str×MV):=[("Beast",.g 2 lQ)]
def mZ:SF:=
 (aD (aW (aF 2) (gOf (aP bG (bJ "herd" (ao 0)) (ak (aq 1) au))))
 (aD (aW (aF 3) (gOf (aY oZ (ak (gq "ear" (ao 2)) (ak (aP bR (ao 0) (ak (gq "owner" (ao 2)) (ak (gq "ground" (ao 2)) au))) au)))))
 (aD (cH (gOf (aP bT (ao 0) (ak (gq "owner" (ao 2)) (ak (aq 3) (ak (gq "ground" (ao 2)) au))))))
 (aD (cH (cM bK (ao 2) (ak (bA (ak (qC (.str "cut")) (ak (aq 3) au))) au)))
 (aQ (aq 3))))))
def jF:Mo->List Dat->aZ Dat:=mG 4 mZ
def jc:SF:=
 (aD (aW (aF 3) (gOf (aP bG (bJ "herd" (ao 0)) (ak (aq 1) au))))
 (aD (bO (jJ (lE rP Nf (qC (.int 0)) (ao 2) (fH oN (qC iI)))) (dZ "NoPlace") aR)
 (aD (bO (bx (aA geD (aA aU (bJ "ear" (ao 3)) (ao 2)) (qC cQ))) (dZ "Deepest") aR)
 (aD (cH (cM bK (ao 3) (ak (bA (ak (qC (.str "torn")) (ak (aq 2) au))) au)))
 (aQ (gq "ear" (ao 3)))))))
def fD:Mo->List Dat->aZ Dat:=mG 4 jc
def u6:SF:=
 (aD (cH (gOf (aP fj (ao 0) (ak (aq 1) au))))
 (aQ (fu (dw (aP dN (ao 0) au)) (bL [2,3]) [2,3] (kY (bx (aA bZ (bJ "mother" (ao 3)) (ao 1))) (bx (xP false .none (bJ "due" (ao 3))))) (bA (ak (aq 2) (ak (aq 3) au))))))
def qJ:Mo->List Dat->Out Dat:=mQ 4 u6
def yC:List (Str×MV):=[("Herd",.q 2 qJ)]
def qu:SF:=
 (cH (cM bK (ao 4) (ak (bA (ak (qC (.str "followed")) (ak (gq "owner" (ao 2)) (ak (gq "ground" (ao 2)) au)))) au)))
def sJ:SF:=
 (aD (aW (aF 2) (gOf (aP fj (ao 0) (ak (aq 1) au))))
 (sW (dw (aP yC (ao 0) (ak (aq 1) au))) (bL [3,4]) qu))
def oJ:Mo->List Dat->aZ Dat:=mG 5 sJ
def iw:List (Str×MV):=[("Herd",.g 2 oJ)]
def fB:SF:=
 (aD (aW (aF 3) (gOf (aP bh (bJ "herd" (ao 0)) (ak (aq 1) au))))
 (aD (cH (gOf (aP aC (ao 0) (ak (aq 2) au))))
 (aD (bO (bx (aA bZ (bJ "owner" (ao 3)) (ao 2))) (dZ "SameOwner") aR)
 (aD (cH (gOf (aP aJ (ao 0) (ak (aq 2) (ak (gq "ground" (ao 3)) au)))))
 (aD (aW (aF 4) (gOf (aY oZ (ak (gq "ear" (ao 3)) (ak (aP bR (ao 0) (ak (aq 2) (ak (gq "ground" (ao 3)) au))) au)))))
 (aD (cH (gOf (aY oG (ak (aq 2) (ak (aq 4) (ak (aP cX (ao 0) (ak (aq 1) (ak (gq "ground" (ao 3)) au))) (ak (aP bY (ao 0) (ak (gq "ground" (ao 3)) au)) au)))))))
 (aD (cH (cM bK (ao 3) (ak (bA (ak (qC (.str "sold")) (ak (aq 2) (ak (aq 4) au)))) au)))
 (aD (cH (cM iw (bJ "herd" (ao 0)) (ak (aq 1) au)))
 (aQ (aq 4))))))))))
def dG:Mo->List Dat->aZ Dat:=mG 5 fB
def fG:SF:=
 (aD (aW (aF 3) (gOf (aP bh (bJ "herd" (ao 0)) (ak (aq 1) au))))
 (aD (cH (gOf (aP aG (bJ "grounds" (ao 0)) (ak (aq 2) au))))
 (aD (aW (aF 4) (gOf (gq "ground" (ao 3))))
 (aD (bO (bx (aA bZ (ao 4) (ao 2))) (dZ "SameGround") aR)
 (aD (cH (gOf (aP aJ (ao 0) (ak (gq "owner" (ao 3)) (ak (aq 2) au)))))
 (aD (cH (gOf (aP bT (ao 0) (ak (gq "owner" (ao 3)) (ak (gq "due" (ao 3)) (ak (aq 2) au))))))
 (aD (cH (cM bK (ao 3) (ak (bA (ak (qC (.str "moved")) (ak (aq 2) au))) au)))
 (aD (cH (cM iw (bJ "herd" (ao 0)) (ak (aq 1) au)))
 (aQ (aq 4))))))))))
def dD:Mo->List Dat->aZ Dat:=mG 5 fG
def qH:SF:=
 (cH (cM bK (aP bG (bJ "herd" (ao 0)) (ak (aq 1) au)) (ak (bA (ak (qC (.str "died")) au)) au)))
def lu:Mo->List Dat->aZ Dat:=mG 2 qH
def Ho:SF:=
 (aD (aW (aF 2) (gOf (aY pZ (ak (aq 0) au))))
 (aQ (Ce (yM 0 (ao 2)) (bL [3,4]) [3,4,5] jf (dw (Cg (ao 2) (kE (aA dY (ao 3) (qC (.int 1)))) pq)) (aF 5) [5] (kY (bx (aA Cm (aA aU (ao 4) (qC (.int 0))) (aA aU (ao 5) (qC (.int 0))))) (jd (aY qN (ak (aA aU (ao 4) (qC (.int 1))) (ak (aA aU (ao 5) (qC (.int 1))) (ak (aq 1) au)))))) (bA (ak (aq 4) (ak (aq 5) au))))))
def uf:Mo->List Dat->Out Dat:=mQ 6 Ho
def tH:SF:=
 (aD (aW (aF 3) (gOf (aA u5 (aP bY (ao 0) (ak (aq 1) au)) (aP bY (ao 0) (ak (aq 2) au)))))
 (aQ (aY uf (ak (aA dY (aP cD (ao 0) (ak (aq 1) au)) (aP cD (ao 0) (ak (aq 2) au))) (ak (aq 3) au)))))
def j8:Mo->List Dat->Out Dat:=mQ 4 tH
def rG:SF:=
 (Ql "circles" (ao 0) (aA lg (ao 3) (qC (.int 1))) (aq 2))
def uH:SF:=
 (aD (aW (aF 2) (gOf (fH mF (ao 1))))
 (aD (sW (dw (aq 1)) (aF 3) rG)
 (aQ (aq 1))))
def lC:Mo->List Dat->aZ Dat:=mG 4 uH
def fZ:List (Str×MV):=[("Grounds",.g 2 lC)]
def rK:SF:=
 (aD (aW (aF 3) (gOf (aP bB (ao 0) (ak (aq 1) au))))
 (aD (aW (aF 4) (gOf (aP bB (ao 0) (ak (aq 2) au))))
 (aD (bO (bx (aA (inD false) (ao 2) (ao 3))) (dZ "Together") aR)
 (gY (cM fZ (ao 0) (ak (fH Iu (aA dY (ao 3) (ao 4))) au))))))
def kZ:Mo->List Dat->aZ Dat:=mG 5 rK
def vL:List (Str×MV):=[("Grounds",.g 3 kZ)]
def mO:List (Str×MV):=[("Commons",.q 3 j8)]
def jg:SF:=
 (aD (cH (gOf (aP aG (bJ "grounds" (ao 0)) (ak (aq 2) au))))
 (aD (bO (bx (aA (inD false) (ao 2) (aP bQ (ao 0) (ak (aq 1) au)))) (dZ "Together") aR)
 (aD (aW (aF 3) (gOf (aP mO (ao 0) (ak (aq 1) (ak (aq 2) au)))))
 (aD (bO (jd (ao 3)) (aD (aW (bL [4,5]) (gOf (aA aU (ao 3) (qC (.int 0)))))
 (Bo "Clash" ["ones","others","ear"] (ak (aq 4) (ak (aq 5) (ak (aY oZ (ak (aA aU (ao 4) (qC (.int 1))) (ak (aA aU (ao 5) (qC (.int 1))) au))) au))))) aR)
 (gY (cM vL (bJ "grounds" (ao 0)) (ak (aq 1) (ak (aq 2) au))))))))
def fV:Mo->List Dat->aZ Dat:=mG 6 jg
def oW:SF:=
 (aD (aW (aF 2) (gOf (fu (dw (aP bB (ao 0) (ak (aq 1) au))) (aF 3) [3] (bx (aA Cm (ao 3) (ao 1))) (aq 3))))
 (aD (bO (jJ (jd (ao 2))) (dZ "Alone") aR)
 (aD (cH (cM fZ (ao 0) (ak (Ae (ak (aq 1) au)) au)))
 (gY (cM fZ (ao 0) (ak (aq 2) au))))))
def iT:Mo->List Dat->aZ Dat:=mG 4 oW
def ou:List (Str×MV):=[("Grounds",.g 2 iT)]
def pK:SF:=
 (gY (cM ou (bJ "grounds" (ao 0)) (ak (aq 1) au)))
def jT:Mo->List Dat->aZ Dat:=mG 2 pK
def tG:SF:=
 (Qs jU (ao 0) "held" (qDc (BK "held" (ao 0)) (bL [3,4,5]) [3,4,5] (bA (ak (Qu (bx (aA bZ (ao 3) (ao 1))) (aq 2) (aq 3)) (ak (aq 4) (ak (aq 5) au))))))
def oH:Mo->List Dat->aZ Dat:=mG 6 tG
def Cr:SF:=
 (aQ (fu (dw (aP dN (ao 0) au)) (bL [2,3]) [2,3] (bx (aA bZ (bJ "owner" (ao 3)) (ao 1))) (bA (ak (aq 2) (ak (aq 3) au)))))
def wX:Mo->List Dat->Out Dat:=mQ 4 Cr
def Ah:List (Str×MV):=[("Herd",.q 2 wX)]
def rE:List (Str×MV):=[("Rights",.g 3 oH)]
def rF:SF:=
 (cH (cM bK (ao 5) (ak (bA (ak (qC (.str "passed")) (ak (aq 2) au))) au)))
def jC:SF:=
 (aD (cH (gOf (aP aC (ao 0) (ak (aq 1) au))))
 (aD (cH (gOf (aP aC (ao 0) (ak (aq 2) au))))
 (aD (bO (bx (aA bZ (ao 1) (ao 2))) (dZ "SameOwner") aR)
 (aD (cH (cM rE (bJ "rights" (ao 0)) (ak (aq 1) (ak (aq 2) au))))
 (aD (aW (aF 3) (gOf (aP Ah (bJ "herd" (ao 0)) (ak (aq 1) au))))
 (aD (sW (dw (aq 3)) (bL [4,5]) rF)
 (aD (Ln "holders" (ao 0) (aq 1))
 (aQ (fu (dw (ao 3)) (bL [4,5]) [4,5] jf (aq 4))))))))))
def fJ:Mo->List Dat->aZ Dat:=mG 6 jC
def uN:SF:=
 (aD (bO (bx (aA bZ (ao 0) (qC (.str "ear")))) (aQ (wB (wD .tuple (ao 1)) (aY tK (ak (aq 1) au)))) aR)
 (aD (aW (aF 2) (gOf (Qu (bx (aA bZ (ao 0) (qC (.str "place")))) (aA lg (fH oN (qC iI)) (qC (.int 1))) (qC nY))))
 (aQ (wB (wD .int (ao 1)) (VL (lE rP rP (qC (.int 0)) (ao 1) (ao 2)))))))
def iG:Mo->List Dat->Out Dat:=mQ 3 uN
def X8:SF:=
 (aD (bO (JC (bx (aA bZ (fH oN (ao 0)) (qC (.int 0)))) (bx (T9 true (yR yh) (aA aU (ao 0) (qC (.int 0)))))) (aQ (qC (.bool false))) aR)
 (aD (aW (aF 1) (gOf (aci (yR yh) (aA aU (ao 0) (qC (.int 0))))))
 (aD (aW (aF 2) (gOf (Cg (ao 0) (kE (qC (.int 1))) pq)))
 (aQ (wB (aA bZ (fH oN (ao 2)) (fH oN (ao 1))) (fH O7 (fu (JK (ao 1) (ao 2)) (bL [3,4]) [3,4] jf (aY iG (ak (aq 3) (ak (aq 4) au))))))))))
def Fj:Mo->List Dat->Out Dat:=mQ 5 X8
def qY:List (Str×MV):=[("Commons",.g 4 cR)]
def sY:List (Str×MV):=[("Commons",.g 3 fJ)]
def wz:List (Str×MV):=[("Commons",.g 2 jT)]
def vO:List (Str×MV):=[("Commons",.g 3 fV)]
def xZ:List (Str×MV):=[("Commons",.g 2 lu)]
def w6:List (Str×MV):=[("Commons",.g 3 dD)]
def wJ:List (Str×MV):=[("Commons",.g 3 dG)]
def jo:List (Str×MV):=[("Commons",.g 3 fD)]
def yd:List (Str×MV):=[("Commons",.g 2 jF)]
def wN:List (Str×MV):=[("Commons",.g 2 iZ)]
def vP:List (Str×MV):=[("Commons",.g 4 fW)]
def vM:List (Str×MV):=[("Commons",.g 3 fP)]
def vN:List (Str×MV):=[("Commons",.g 4 dU)]
def oX:List (Str×MV):=[("Commons",.g 2 gD)]
def cU:SF:=
 (aD (bO (jJ (jd (aY Fj (ak (aq 1) au)))) (dZ "BadDeed") aR)
 (aD (W8 2 3 (gOf (aq 1)))
 (aD (bO (bx (aA bZ (ao 2) (qC (.str "owner")))) (gY (cM gG (ao 0) au)) aR)
 (aD (bO (bx (aA bZ (ao 2) (qC (.str "ground")))) (gY (cM oX (ao 0) (ak (aA aU (ao 3) (qC (.int 0))) au))) aR)
 (aD (bO (bx (aA bZ (ao 2) (qC (.str "enrol")))) (gY (cM vN (ao 0) (ak (aA aU (ao 3) (qC (.int 0))) (ak (aA aU (ao 3) (qC (.int 1))) (ak (aA aU (ao 3) (qC (.int 2))) au))))) aR)
 (aD (bO (bx (aA bZ (ao 2) (qC (.str "leave")))) (gY (cM vM (ao 0) (ak (aA aU (ao 3) (qC (.int 0))) (ak (aA aU (ao 3) (qC (.int 1))) au)))) aR)
 (aD (bO (bx (aA bZ (ao 2) (qC (.str "bring")))) (gY (cM vP (ao 0) (ak (aA aU (ao 3) (qC (.int 0))) (ak (aA aU (ao 3) (qC (.int 1))) (ak (aA aU (ao 3) (qC (.int 2))) au))))) aR)
 (aD (bO (bx (aA bZ (ao 2) (qC (.str "bear")))) (gY (cM wN (ao 0) (ak (aA aU (ao 3) (qC (.int 0))) au))) aR)
 (aD (bO (bx (aA bZ (ao 2) (qC (.str "cut")))) (gY (cM yd (ao 0) (ak (aA aU (ao 3) (qC (.int 0))) au))) aR)
 (aD (bO (bx (aA bZ (ao 2) (qC (.str "tear")))) (gY (cM jo (ao 0) (ak (aA aU (ao 3) (qC (.int 0))) (ak (aA aU (ao 3) (qC (.int 1))) au)))) aR)
 (aD (bO (bx (aA bZ (ao 2) (qC (.str "sell")))) (gY (cM wJ (ao 0) (ak (aA aU (ao 3) (qC (.int 0))) (ak (aA aU (ao 3) (qC (.int 1))) au)))) aR)
 (aD (bO (bx (aA bZ (ao 2) (qC (.str "move")))) (gY (cM w6 (ao 0) (ak (aA aU (ao 3) (qC (.int 0))) (ak (aA aU (ao 3) (qC (.int 1))) au)))) aR)
 (aD (bO (bx (aA bZ (ao 2) (qC (.str "die")))) (gY (cM xZ (ao 0) (ak (aA aU (ao 3) (qC (.int 0))) au))) aR)
 (aD (bO (bx (aA bZ (ao 2) (qC (.str "unite")))) (gY (cM vO (ao 0) (ak (aA aU (ao 3) (qC (.int 0))) (ak (aA aU (ao 3) (qC (.int 1))) au)))) aR)
 (aD (bO (bx (aA bZ (ao 2) (qC (.str "part")))) (gY (cM wz (ao 0) (ak (aA aU (ao 3) (qC (.int 0))) au))) aR)
 (aD (bO (bx (aA bZ (ao 2) (qC (.str "pass")))) (gY (cM sY (ao 0) (ak (aA aU (ao 3) (qC (.int 0))) (ak (aA aU (ao 3) (qC (.int 1))) au)))) aR)
 (gY (cM qY (ao 0) (ak (aA aU (ao 3) (qC (.int 0))) (ak (aA aU (ao 3) (qC (.int 1))) (ak (aA aU (ao 3) (qC (.int 2))) au)))))))))))))))))))))
def cP:Mo->List Dat->aZ Dat:=mG 4 cU
def qK:List (Str×MV):=[("Commons",.g 2 cP)]
def J9:SF:=
 (aD (aW (aF 3) (gOf (qC .none)))
 (aD (Ua (aW (aF 3) (cM qK (ao 0) (ak (aq 1) au))) [⟨"CommonError",fun x=>tR.lookup x,none,[(3,(.con .none))]⟩])
 (aD (bO (bx (xP false .none (ao 3))) (aQ (aq 2)) aR)
 (aD (aW (bL [4,5,6]) (gOf (aq 2)))
 (aD (bO (JC (bx (aA bZ (aA aU (ao 1) (qC (.int 0))) (qC (.str "owner")))) (bx (aA bZ (aA aU (ao 1) (qC (.int 0))) (qC (.str "heir"))))) (O5 4 (qC (.int 1))) aR)
 (aD (bO (bx (aA bZ (aA aU (ao 1) (qC (.int 0))) (qC (.str "ground")))) (O5 5 (qC (.int 1))) aR)
 (aD (bO (JC (bx (aA bZ (aA aU (ao 1) (qC (.int 0))) (qC (.str "bring")))) (bx (aA bZ (aA aU (ao 1) (qC (.int 0))) (qC (.str "bear"))))) (O5 6 (qC (.int 1))) aR)
 (aQ (bA (ak (aq 4) (ak (aq 5) (ak (aq 6) au))))))))))))
def qF:Mo->List Dat->aZ Dat:=mG 7 J9
def Nq:SF:=
 (aD (aW (aF 5) (gOf (aA aU (bA (ak (qC (.int 0)) (ak (qC (.int 0)) (ak (qC (.int 0)) (ak (qC (.int 0)) (ak (qC (.int 0)) (ak (qC (.int 1)) (ak (qC (.int 1)) (ak (qC (.int 2)) (ak (qC (.int 3)) (ak (fH R3 (qC (.int 1))) au))))))))))) (ao 4))))
 (Og 2 (aA u5 (qC (.int 0)) (aA Ij (qC (.int 9)) (aA dY (ao 3) (ao 5))))))
def Zt:SF:=
 (aD (Hu 2 (Rz au))
 (aD (sW (JK (aq 0) (aq 1)) (bL [3,4]) Nq)
 (aQ (fH mF (ao 2)))))
def Kc:Mo->List Dat->Out Dat:=mQ 6 Zt
def JH:SF:=
 (aD (bO (bx (aA Nf (ao 1) (qC (.int 4)))) (aQ (aY Kc (ak (aq 2) (ak (aq 0) au)))) aR)
 (aQ (aY sO (ak (aq 0) (ak (aq 1) au)))))
def vW:Mo->List Dat->Out Dat:=mQ 3 JH
def WM:SF:=
 (aD (bO (jd (ao 2)) (aQ (aA dY (qC (.int 1)) (aA jP (ao 0) (aA u5 (qC (.int 1)) (ao 1))))) aR)
 (aQ (aA jP (ao 0) (aA dY (ao 1) (qC (.int 2))))))
def jH:Mo->List Dat->Out Dat:=mQ 3 WM
def jN:SF:=
 (aD (aW (aF 6) (gOf (aA Cm (aA aU (ao 3) (qC (.int 6))) (qC (.int 9)))))
 (aD (aW (aF 7) (gOf (aY vW (ak (Cg (ao 3) (kE (qC (.int 8))) (kE (qC (.int 14)))) (ak (aA aU (ao 3) (qC (.int 7))) (ak (aq 5) au))))))
 (aD (bO (bx (aA bZ (ao 0) (qC (.str "owner")))) (aQ (bA (ak (qC (.str "owner")) au))) aR)
 (aD (bO (bx (aA bZ (ao 0) (qC (.str "ground")))) (aQ (bA (ak (qC (.str "ground")) (ak (aA dY (aA aU (bA (ak (qC (.int 0)) (ak (qC (.int 1)) (ak (qC (.int 2)) (ak (qC (.int 3)) (ak (qC (.int 0)) (ak (qC (.int 1)) (ak (qC (.int 5)) (ak (qC (.int 6)) (ak (qC (.int 7)) (ak (qC (.int 8)) au))))))))))) (aA aU (ao 3) (qC (.int 7)))) (aA wM (qC (.int 4)) (fH intD (Pk (ao 6))))) au)))) aR)
 (aD (bO (kY (bx (aA bZ (ao 0) (qC (.str "bring")))) (bx (aA Nf (aA aU (ao 3) (qC (.int 7))) (qC (.int 6))))) (aW (aF 7) (gOf (bA (ak (qC (.int 0)) (ak (qC (.int 0)) (ak (qC (.int 0)) (ak (qC (.int 0)) (ak (qC (.int 0)) (ak (qC (.int 0)) au))))))))) aR)
 (aD (bO (JC (bx (aA bZ (ao 0) (qC (.str "enrol")))) (bx (aA bZ (ao 0) (qC (.str "bring"))))) (aQ (bA (ak (aq 0) (ak (aY jH (ak (aq 1) (ak (aA aU (ao 4) (qC (.int 0))) (ak (aq 6) au)))) (ak (aY jH (ak (aq 2) (ak (aA aU (ao 4) (qC (.int 1))) (ak (aq 6) au)))) (ak (aq 7) au)))))) aR)
 (aD (bO (bx (aA bZ (ao 0) (qC (.str "leave")))) (aQ (bA (ak (aq 0) (ak (aY jH (ak (aq 1) (ak (aA aU (ao 4) (qC (.int 0))) (ak (aq 6) au)))) (ak (aY jH (ak (aq 2) (ak (aA aU (ao 4) (qC (.int 1))) (ak (aq 6) au)))) au))))) aR)
 (aD (bO (bx (aA bZ (ao 0) (qC (.str "heir")))) (aQ (bA (ak (aq 0) (ak (aY jH (ak (aq 1) (ak (aA aU (ao 4) (qC (.int 0))) (ak (aq 6) au)))) (ak (aY jH (ak (aq 2) (ak (aA aU (ao 4) (qC (.int 1))) (ak (aq 6) au)))) (ak (aA jP (aA aU (ao 3) (qC (.int 7))) (qC (.int 4))) au)))))) aR)
 (aD (bO (bx (aA bZ (ao 0) (qC (.str "pass")))) (aQ (bA (ak (aq 0) (ak (aY jH (ak (aq 1) (ak (aA aU (ao 4) (qC (.int 0))) (ak (aq 6) au)))) (ak (aY jH (ak (aq 2) (ak (aA aU (ao 4) (qC (.int 0))) (ak (aq 6) au)))) au))))) aR)
 (aD (bO (bx (aA bZ (ao 0) (qC (.str "unite")))) (aQ (bA (ak (aq 0) (ak (aY jH (ak (aq 1) (ak (aA aU (ao 4) (qC (.int 1))) (ak (aq 6) au)))) (ak (aY jH (ak (aq 2) (ak (aA aU (ao 4) (qC (.int 1))) (ak (aq 6) au)))) au))))) aR)
 (aD (bO (bx (aA bZ (ao 0) (qC (.str "part")))) (aQ (bA (ak (aq 0) (ak (aY jH (ak (aq 1) (ak (aA aU (ao 4) (qC (.int 1))) (ak (aq 6) au)))) au)))) aR)
 (aD (bO (bx (aA bZ (ao 0) (qC (.str "tear")))) (aQ (bA (ak (aq 0) (ak (aY jH (ak (aq 1) (ak (aA aU (ao 4) (qC (.int 2))) (ak (aq 6) au)))) (ak (aA jP (aA aU (ao 3) (qC (.int 7))) (qC (.int 6))) au))))) aR)
 (aD (bO (bx (aA bZ (ao 0) (qC (.str "sell")))) (aQ (bA (ak (aq 0) (ak (aY jH (ak (aq 1) (ak (aA aU (ao 4) (qC (.int 2))) (ak (aq 6) au)))) (ak (aY jH (ak (aq 2) (ak (aA aU (ao 4) (qC (.int 0))) (ak (aq 6) au)))) au))))) aR)
 (aD (bO (bx (aA bZ (ao 0) (qC (.str "move")))) (aQ (bA (ak (aq 0) (ak (aY jH (ak (aq 1) (ak (aA aU (ao 4) (qC (.int 2))) (ak (aq 6) au)))) (ak (aY jH (ak (aq 2) (ak (aA aU (ao 4) (qC (.int 1))) (ak (aq 6) au)))) au))))) aR)
 (aQ (bA (ak (aq 0) (ak (aY jH (ak (aq 1) (ak (aA aU (ao 4) (qC (.int 2))) (ak (aq 6) au)))) au))))))))))))))))))
def eZ:Mo->List Dat->Out Dat:=mQ 8 jN
def Hh:SF:=
 (aD (aW (aF 3) (Bh qF (ak (aq 0) (ak (bA (ak (qC (.str "bring")) (ak (qC (.int 1)) (ak (qC (.int 1)) (ak (bA (ak (qC (.int 0)) (ak (qC (.int 0)) (ak (qC (.int 0)) (ak (qC (.int 0)) (ak (qC (.int 0)) (ak (qC (.int 0)) au))))))) au))))) (ak (aq 3) au)))))
 (aW (aF 3) (Bh qF (ak (aq 0) (ak (bA (ak (qC (.str "cut")) (ak (aA aU (ao 3) (qC (.int 2))) au))) (ak (aq 3) au))))))
def Cd:SF:=
 (aD (aW (aF 8) (gOf (aY u9 (ak (aq 7) (ak (qC (.int 14)) (ak (qC (.int 10)) au))))))
 (aD (aW (aF 9) (gOf (aY zE (ak (aA dY (aA wM (aA aU (ao 8) (qC (.int 0))) (qC (.int 10))) (aA aU (ao 8) (qC (.int 1)))) au))))
 (aD (aW (aF 10) (gOf (aA dY (aA wM (aA aU (ao 8) (qC (.int 2))) (qC (.int 10))) (aA aU (ao 8) (qC (.int 3))))))
 (aD (aW (aF 11) (gOf (aA dY (aA wM (aA aU (ao 8) (qC (.int 4))) (qC (.int 10))) (aA aU (ao 8) (qC (.int 5))))))
 (aD (bO (bx (aA Nf (ao 6) (fH oN (ao 5)))) (aW (bL [9,10,11]) (gOf (aA aU (ao 5) (ao 6)))) aR)
 (aW (aF 3) (Bh qF (ak (aq 0) (ak (aY eZ (ak (aq 9) (ak (aq 10) (ak (aq 11) (ak (aq 8) (ak (aq 3) (ak (aq 4) au))))))) (ak (aq 3) au))))))))))
def Qt:SF:=
 (aD (aW (aF 3) (gOf (bA (ak (qC (.int 0)) (ak (qC (.int 0)) (ak (qC (.int 0)) au))))))
 (aD (aW (aF 4) (gOf (aY Ik (ak (aA Af (ao 2) (qC (.int 512))) au))))
 (aD (aW (aF 5) (gOf (aY uM (ak (aq 2) au))))
 (aD (sW (yM 0 (aq 1)) (bL [6,7]) Cd)
 (aD (bO (bx (aA bZ (aA jP (aA Af (ao 2) (qC (.int 8))) (qC (.int 8))) (qC (.int 1)))) (sW (yg (aA wM (aA jP (aA Af (ao 2) (qC (.int 64))) (qC (.int 8))) (qC (.int 4)))) (aF 12) Hh) aR)
 (aQ (aq 3)))))))
def Bw:Mo->List Dat->aZ Dat:=mG 13 Qt
def YQ:SF:=
 (aD (bO (bx (aA Nf (ao 1) (fH oN (ao 0)))) (aQ (aA aU (ao 0) (ao 1))) aR)
 (aQ (qC (.int 0))))
def uV:Mo->List Dat->Out Dat:=mQ 2 YQ
def RJ:SF:=
 (aD (aW (aF 4) (gOf (aY u9 (ak (aq 1) (ak (qC (.int 14)) (ak (qC (.int 10)) au))))))
 (aQ (aY eZ (ak (aq 0) (ak (aA dY (aA wM (aA aU (ao 4) (qC (.int 2))) (qC (.int 10))) (aA aU (ao 4) (qC (.int 3)))) (ak (aA dY (aA wM (aA aU (ao 4) (qC (.int 4))) (qC (.int 10))) (aA aU (ao 4) (qC (.int 5)))) (ak (aq 4) (ak (aq 2) (ak (aY Ik (ak (aA Af (ao 3) (qC (.int 512))) au)) au)))))))))
def jE:Mo->List Dat->Out Dat:=mQ 5 RJ
def W7:SF:=
 (aD (bO (bx (aA Nf (ao 0) (qC (.int 0)))) (aQ (aA lg (qC (.int 0)) (aA jP (aA lg (qC (.int 0)) (ao 0)) (aA Oh (qC (.int 10)) (qC (.int 30)))))) aR)
 (aQ (aA jP (ao 0) (aA Oh (qC (.int 10)) (qC (.int 30))))))
def LC:Mo->List Dat->Out Dat:=mQ 1 W7
def W0:SF:=
 (aD (bO (bx (aA bZ (aA jP (ao 1) (qC (.int 13))) (ao 2))) (aQ (aY LC (ak (aA Af (ao 1) (qC (.int 13))) au))) aR)
 (aQ (aq 0)))
def Hl:Mo->List Dat->Out Dat:=mQ 3 W0
def uh:SF:=
 (aD (bO (jJ (lE rP rP (qC (.int 1)) (ao 1) (fH oN (aA aU (ao 0) (qC (.int 3)))))) (aQ (qC (.str "NoBeast"))) aR)
 (aD (bO (jJ (jd (aA aU (aA aU (aA aU (ao 0) (qC (.int 3))) (aA lg (ao 1) (qC (.int 1)))) (qC (.int 4))))) (aQ (qC (.str "Dead"))) aR)
 (aD (bO (kY (jd (ao 2)) (bx (xP false .none (aA aU (aA aU (aA aU (ao 0) (qC (.int 3))) (aA lg (ao 1) (qC (.int 1)))) (qC (.int 2)))))) (aQ (qC (.str "Unmarked"))) aR)
 (aQ (qC (.str ""))))))
def oK:Mo->List Dat->Out Dat:=mQ 3 uh
def Oo:SF:=
 (aQ (bA (ak (aq 1) (ak (aq 2) (ak (aq 3) (ak (aq 4) (ak (aA aU (ao 0) (qC (.int 4))) (ak (aA aU (ao 0) (qC (.int 5))) (ak (aA dY (aA aU (ao 0) (qC (.int 6))) (bA (ak (aq 5) au))) au)))))))))
def BP:Mo->List Dat->Out Dat:=mQ 6 Oo
def CV:SF:=
 (aD (aW (aF 3) (gOf (aY oK (ak (aq 0) (ak (aq 1) (ak (qC (.bool false)) au))))))
 (aD (bO (kY (bx (aA bZ (ao 3) (qC (.str "")))) (jJ (lE rP rP (qC (.int 0)) (ao 2) (qC (.int 5))))) (aW (aF 3) (gOf (qC (.str "NoPlace")))) (bO (kY (bx (aA bZ (ao 3) (qC (.str "")))) (bx (aA bZ (aA aU (aA aU (aA aU (aA aU (ao 0) (qC (.int 3))) (aA lg (ao 1) (qC (.int 1)))) (qC (.int 3))) (ao 2)) (qC (.int 9))))) (aW (aF 3) (gOf (qC (.str "Deepest")))) aR))
 (aD (bO (bx (aA Cm (ao 3) (qC (.str "")))) (aQ (bA (ak (aq 3) (ak (qC .none) (ak (aq 0) au))))) aR)
 (aD (aW (aF 4) (gOf (aA aU (aA aU (ao 0) (qC (.int 3))) (aA lg (ao 1) (qC (.int 1))))))
 (aD (aW (aF 5) (gOf (aA dY (aA dY (Cg (aA aU (ao 4) (qC (.int 3))) pq (kE (ao 2))) (bA (ak (aA dY (aA aU (aA aU (ao 4) (qC (.int 3))) (ao 2)) (qC (.int 1))) au))) (Cg (aA aU (ao 4) (qC (.int 3))) (kE (aA dY (ao 2) (qC (.int 1)))) pq))))
 (aD (aW (aF 4) (gOf (aY BP (ak (aq 4) (ak (aA aU (ao 4) (qC (.int 0))) (ak (aA aU (ao 4) (qC (.int 1))) (ak (aA aU (ao 4) (qC (.int 2))) (ak (aq 5) (ak (bA (ak (qC (.str "torn")) (ak (aq 2) au))) au)))))))))
 (aQ (bA (ak (qC (.str "")) (ak (aq 5) (ak (bA (ak (aA aU (ao 0) (qC (.int 0))) (ak (aA aU (ao 0) (qC (.int 1))) (ak (aA aU (ao 0) (qC (.int 2))) (ak (aA dY (aA dY (Cg (aA aU (ao 0) (qC (.int 3))) pq (kE (aA lg (ao 1) (qC (.int 1))))) (Ae (ak (aq 4) au))) (Cg (aA aU (ao 0) (qC (.int 3))) (kE (ao 1)) pq)) au))))) au)))))))))))
def wC:Mo->List Dat->Out Dat:=mQ 6 CV
def Qe:SF:=
 (aD (aW (aF 3) (gOf (qC (.str ""))))
 (aD (aW (aF 4) (gOf (qC .none)))
 (aD (Ua (aW (aF 4) (cM jo (ao 0) (ak (aq 1) (ak (aq 2) au)))) [⟨"NoBeast",fun x=>Im.lookup x,none,[(3,(.con (.str "NoBeast")))]⟩,⟨"Dead",fun x=>RK.lookup x,none,[(3,(.con (.str "Dead")))]⟩,⟨"NoPlace",fun x=>IK.lookup x,none,[(3,(.con (.str "NoPlace")))]⟩,⟨"Deepest",fun x=>Hz.lookup x,none,[(3,(.con (.str "Deepest")))]⟩])
 (aQ (bA (ak (aq 3) (ak (aq 4) au)))))))
def BL:Mo->List Dat->aZ Dat:=mG 5 Qe
def Ug:SF:=
 (aQ (wB (wD .int (ao 0)) (Pk (wD .bool (ao 0)))))
def Es:Mo->List Dat->Out Dat:=mQ 1 Ug
def Nu(r:Mo->List Dat->Out Dat):SF:=
 (bO (jJ (jd (aY r (ak (aq 2) (ak (aq 3) au))))) (aQ (qC (.bool false))) aR)
def FP(r:Mo->List Dat->Out Dat):SF:=
 (aD (bO (bx (xP false .none (ao 1))) (aQ (xP false .none (ao 0))) aR)
 (aD (bO (bx (xP false (.bool true) (ao 1))) (aQ (xP false (.bool true) (ao 0))) aR)
 (aD (bO (bx (xP false (.bool false) (ao 1))) (aQ (xP false (.bool false) (ao 0))) aR)
 (aD (bO (jd (wD .int (ao 1))) (aQ (wB (aY Es (ak (aq 0) au)) (aA bZ (ao 0) (ao 1)))) aR)
 (aD (bO (jd (wD .str (ao 1))) (aQ (wB (wD .str (ao 0)) (aA bZ (ao 0) (ao 1)))) aR)
 (aD (bO (kY (jd (wD .tuple (ao 1))) (jJ (jd (wD .tuple (ao 0))))) (aQ (qC (.bool false))) aR)
 (aD (bO (kY (jd (wD .list (ao 1))) (jJ (jd (wD .list (ao 0))))) (aQ (qC (.bool false))) aR)
 (aD (bO (bx (aA Cm (fH oN (ao 0)) (fH oN (ao 1)))) (aQ (qC (.bool false))) aR)
 (aD (sW (JK (aq 0) (aq 1)) (bL [2,3]) (Nu r))
 (aQ (qC (.bool true))))))))))))
def jx:Nat->Mo->List Dat->Out Dat
 |0=>fun _ _=>.bad
 |n+1=>mQ 4 (FP (jx n))
def eO:List (Str×MV):=[("Commons",.q 1 pN)]
def Ge:SF:=
 (aD (aW (aF 9) (gOf (aY wC (ak (aP eO (ao 1) au) (ak (aq 6) (ak (aq 7) au))))))
 (ace (W6 (WT (Qw (jx 10) (Eu (Bh BL (ak (aq 1) (ak (aq 6) (ak (aq 7) au)))) (Eu (gOf (Cg (ao 9) pq (kE (qC (.int 2))))) Xa))))) (aQ (qC (.bool false))) aR))
def Ls:SF:=
 (aD (aW (aF 1) (zY "Commons" lW au))
 (aD (aW (aF 2) (gOf (fH Ss (aY uV (ak (aq 0) (ak (qC (.int 0)) au))))))
 (aD (aW (aF 3) (Bh Bw (ak (aq 1) (ak (Cg (ao 0) (kE (qC (.int 2))) (kE (qC (.int 44)))) (ak (aq 2) au)))))
 (aD (aW (aF 4) (gOf (aY uV (ak (aq 0) (ak (qC (.int 1)) au)))))
 (aD (aW (aF 5) (gOf (aY jE (ak (qC (.str "tear")) (ak (aq 4) (ak (aq 3) (ak (aq 2) au)))))))
 (aD (sPN [6,7] (ak (aY Hl (ak (aA aU (ao 5) (qC (.int 1))) (ak (aq 4) (ak (qC (.int 3)) au)))) (ak (aA aU (ao 5) (qC (.int 2))) au)))
 (aD (bO (bx (aA bZ (aA jP (ao 4) (qC (.int 5))) (qC (.int 1)))) (aW (aF 7) (gOf (aA lg (aA jP (aA Af (ao 4) (qC (.int 5))) (qC (.int 8))) (qC (.int 1))))) aR)
 (aD (aW (aF 7) (gOf (aY Hl (ak (aq 7) (ak (aq 4) (ak (qC (.int 4)) au))))))
 (aD (sW (yg (aA jP (ao 4) (qC (.int 11)))) (aF 8) Ge)
 (aD (aW (aF 10) (gOf (aP eO (ao 1) au)))
 (aD (aW (aF 9) (gOf (aY wC (ak (aq 10) (ak (aq 6) (ak (aq 7) au))))))
 (aD (aW (aF 11) (Bh BL (ak (aq 1) (ak (aq 6) (ak (aq 7) au)))))
 (aQ (wB (aY (jx 10) (ak (aq 11) (ak (Cg (ao 9) pq (kE (qC (.int 2)))) au))) (aY (jx 10) (ak (aP eO (ao 1) au) (ak (aA aU (ao 9) (qC (.int 2))) au)))))))))))))))))
def GP:Mo->List Dat->aZ Dat:=mG 12 Ls
theorem Ws:FnScope ["self","ones","others","ear"] ["self","ones","others","ear"] (defScope KD):=⟨rfl,rfl,rfl,by decide +kernel,rfl,by decide +kernel,by decide +kernel⟩
abbrev rX(N:List Str)(s:Stmt)(G:List (Str×GV))(B:List Str)(Ms:List (Str×List (Str×MV)))(ml:List Str):Option SF:=rd ⟨N,defScope s,G,B,⟨Ms,jU,xmH,dfH,Vd⟩,ml,true⟩ (defBody s)
abbrev rY(N:List Str)(s:Stmt)(G:List (Str×GV))(B:List Str)(Ms:List (Str×List (Str×MV)))(ml:List Str):Option SF:=rdG ⟨N,defScope s,G,B,⟨Ms,jU,xmH,dfH,Vd⟩,ml,true⟩ (defBody s)
theorem ahb:FnScope ["_law_found","_law_due_here","_law_one","_law_other"] ["_law_found","_law_due_here"] (defScope Py):=⟨rfl,rfl,rfl,by decide +kernel,rfl,by decide +kernel,by decide +kernel⟩
theorem ah8:FnScope ["_law_script","_law_house","_law_head","_law_counts","_law_cell_here","_law_deed_here","_law_beast","_law_place","_law_turn","_law_due_here","_law_stand","_law_told"] ["_law_script"] (defScope Lw):=⟨rfl,rfl,rfl,by decide +kernel,rfl,by decide +kernel,by decide +kernel⟩
theorem R7:rY ["self"] Gm [] [] [] []=some xV:=by kernel_rfl
theorem V7:rY ["self"] Jo [] [] [] []=some Aj:=by kernel_rfl
theorem Z9:rY ["self"] M9 [] [] [] []=some Eb:=by kernel_rfl
theorem T8:rY ["self"] Gf [("Herd",.cls 0 yU),("Rights",.cls 0 uY),("Grounds",.cls 0 uE)] [] [] []=some xX:=by kernel_rfl
theorem Wq:rX ["self"] Ji [] [] [] []=some zX:=by kernel_rfl
theorem YH:rX ["self"] Km [] ["tuple"] [("stand",lO)] []=some Bt:=by kernel_rfl
theorem O9:rX ["self"] Bu [] ["list"] [] []=some vK:=by kernel_rfl
theorem Mx:rX ["self"] Am [] ["list"] [] []=some uJ:=by kernel_rfl
theorem Sq:rX ["self"] Fx [] ["len"] [] []=some tV:=by kernel_rfl
theorem Wb:rX ["self","ground"] Jq [] [] [("many",eG)] []=some Ak:=by kernel_rfl
theorem Tj:rX ["self","ground"] Fq [("NoGround",.exc)] [] [("has",yI)] []=some yw:=by kernel_rfl
theorem Ju:rX ["self","ground"] xR [] [] [("need",aG)] []=some mK:=by kernel_rfl
theorem KH:rX ["self","ground"] zB [] ["list"] [("need",aG)] []=some nR:=by kernel_rfl
theorem Le:rX ["self","ground"] zp [] [] [("together",bB)] []=some oA:=by kernel_rfl
theorem Uq:rX ["self","grounds","beasts","ground","beast"] Gy [] ["range","tuple"] [("all_rows",sE),("owners",uL),("told",uZ),("many",eG),("together",bQ),("allowance",dO)] []=some xU:=by kernel_rfl
theorem alv:rX ["_law_cell_here","_law_many","_law_base","_law_found","_law_k","_law_turn"] s_row [] ["range","abs"] [] ["_law_found"]=some ab2:=by kernel_rfl
theorem aey:rX ["_law_figures","_law_mode","_law_figure"] X5 [] ["tuple","max"] [] []=some O2:=by kernel_rfl
theorem alL:rX ["_law_cell_here","_law_figures"] afW [("_law_ear_by",.fq 2 sO),("_law_row",.fq 3 u9)] [] [] []=some abw:=by kernel_rfl
theorem Z7:rX ["_law_head","_law_rows"] M4 [] [] [] []=some Eh:=by kernel_rfl
theorem aes:rX ["_law_figure","_law_some"] Vt [] [] [] []=some Kf:=by kernel_rfl
theorem Ip:rX ["self","owner"] v8 [("NoOwner",.exc)] [] [] []=some lH:=by kernel_rfl
theorem T6:rX ["self","owner","ground","holder","where","mark"] Fw [] [] [] []=some yJ:=by kernel_rfl
theorem JL:rX ["self","owner","ground"] zP [] ["len"] [("marks",cJ)] []=some sV:=by kernel_rfl
theorem Ig:rX ["self","owner","ground"] wF [("NoRight",.exc)] [] [("has_right",rA)] []=some ql:=by kernel_rfl
theorem Jx:rY ["self"] xQ [] [] [] []=some rC:=by kernel_rfl
theorem JW:rY ["self","owner","ground","mark","row"] zQ [("HasRight",.exc)] [] [] []=some nQ:=by kernel_rfl
theorem akb:rX ["ear","many","heads","depth","head","left","cut"] aeh [("GREATEST_DEPTH",.con cQ)] ["range","min"] [] []=some Zz:=by kernel_rfl
theorem ahK:rX ["one","other","here","there"] aa7 [] ["sum","zip"] [] []=some Tv:=by kernel_rfl
theorem aai:rX ["mark","extra","ear"] Nb [("lacks",.fq 2 tY),("torn",.fq 2 KR)] [] [] []=some Ed:=by kernel_rfl
theorem agr:rX ["one","other"] aaJ [("lacks",.fq 2 tY)] ["max"] [] []=some RN:=by kernel_rfl
theorem aiC:rX ["one","other","room"] aec [("apart",.fq 2 Gn)] [] [] []=some Xc:=by kernel_rfl
theorem Yi:rX ["mark","extra","rows","room","ear","owner","taken"] KN [("NoneFree",.exc),("offspring",.fq 2 uR),("meet",.fq 3 qN)] ["any"] [] []=some wL:=by kernel_rfl
theorem Ht:rX ["self","owner","ground"] wj [] [] [("marks",cJ)] []=some qD:=by kernel_rfl
theorem aeT:rX ["rows"] Zw [] ["sorted","set"] [] []=some Nr:=by kernel_rfl
theorem Mz:rX ["self","number","beast"] Ar [] ["enumerate"] [] []=some uK:=by kernel_rfl
theorem SJ:rX ["self","grounds","number","beast"] Fl [] [] [("all_living",dN)] []=some yc:=by kernel_rfl
theorem Jt:rX ["self","grounds","owner","ground","mark"] xM [] [] [] []=some qZ:=by kernel_rfl
theorem DW:rX ["self","left_out","ground","near","due","number","beast"] uO [("tidied",.fq 1 pZ)] [] [("in_grounds",pX),("grazing",jh),("together",bQ)] []=some jV:=by kernel_rfl
theorem KJ:rX ["self","ground"] zH [] [] [("standing_but",cX)] []=some oE:=by kernel_rfl
theorem SQ:rX ["self","ground","near"] Gq [] ["max"] [("together",bB),("allowance",dO)] []=some uo:=by kernel_rfl
theorem Sy:rX ["self","ground"] FJ [] [] [("room",rH)] []=some tM:=by kernel_rfl
theorem Ks:rY ["self","elder","ground","extra","mark","heir"] zm [("first_free",.fq 4 o9),("BadExtra",.exc),("FEWEST_EXTRA",.con iQ),("MOST_EXTRA",.con jZ)] [] [("add_right",iy),("new_owner",gG),("room",bY),("standing",cD),("first_mark",bR),("need_right",aJ),("need",aG),("need_owner",aC)] []=some dI:=by kernel_rfl
theorem Hw:rY ["self","allowance"] v9 [("BadAllowance",.exc),("GREATEST_ALLOWANCE",.con gj)] [] [("many",eG)] []=some jm:=by kernel_rfl
theorem HD:rY ["self","allowance"] xq [] [] [("add_ground",kW)] []=some lJ:=by kernel_rfl
theorem acN:rX ["owner","ear","rows","room","holder","mark"] Vq [("meet",.fq 3 qN),("tidied",.fq 1 pZ)] [] [] []=some K7:=by kernel_rfl
theorem agZ:rX ["one","other","here","there"] aaR [] ["tuple","zip","max"] [] []=some TY:=by kernel_rfl
theorem abL:rX ["owner","ear","rows","room","bars","holder","mark"] Qg [("Clash",.exi ["ones","others","ear"]),("joint",.fq 2 oZ),("barring",.fq 4 zA)] [] [] []=some Ba:=by kernel_rfl
theorem Ih:rX ["self","owner","ear","ground"] wU [("ask_room",.fq 4 oG)] [] [("room",bY),("standing",cD)] []=some lM:=by kernel_rfl
theorem afl:rX ["parts","depth"] Zf [("GREATEST_DEPTH",.con cQ),("PLACES",.con iI)] ["all","len"] [] []=some Ie:=by kernel_rfl
theorem ab4:rX ["parts"] Q5 [("BadEar",.exc),("is_ear",.fq 1 tK)] [] [] []=some Hg:=by kernel_rfl
theorem Rm:rY ["self","owner","ground","mark"] CP [("HasRight",.exc),("Bare",.exc),("BARE_EAR",.con jr),("need_ear",.fq 1 qm)] [] [("add_right",iy),("ask_ground",bT),("marks",cJ),("need",aG),("need_owner",aC)] []=some fQ:=by kernel_rfl
theorem V6:rY ["self","owner","ground","gone","mark"] Jg [("NoRight",.exc)] [] [("marks",cJ)] []=some vo:=by kernel_rfl
theorem Rc:rY ["self","owner","ground","number","beast"] Dq [("StillThere",.exc)] ["any"] [("drop",yq),("grazing",jh),("need_right",aJ),("need",aG),("need_owner",aC)] []=some jk:=by kernel_rfl
theorem NT:rY ["self","stand","owner","ground","due","ear","alive"] Bx [] [] [] []=some qw:=by kernel_rfl
theorem agN:rX ["first","word","mother","owner","ground","ear"] aaY [("BARE_EAR",.con jr)] [] [] []=some Lz:=by kernel_rfl
theorem YX:rY ["self","first"] KZ [("begun",.fq 1 Bq)] [] [("stand_so",jD)] []=some Cz:=by kernel_rfl
theorem N7:rY ["self","first"] BZ [("Beast",.cls 1 tL)] ["len"] [] []=some vA:=by kernel_rfl
theorem Pg:rY ["self","owner","ground","ear"] CJ [("need_ear",.fq 1 qm)] [] [("add_beast",jB),("need_right",aJ),("need",aG),("need_owner",aC)] []=some ji:=by kernel_rfl
theorem YD:rX ["self","number"] J5 [("NoBeast",.exc)] ["len"] [] []=some sS:=by kernel_rfl
theorem Wi:rX ["self","number","beast"] Jm [("Dead",.exc)] [] [("known",fj)] []=some vq:=by kernel_rfl
theorem Wx:rX ["self","number","beast"] Jk [("Unmarked",.exc)] [] [("living",bG)] []=some qI:=by kernel_rfl
theorem RW:rY ["self","mother","cow"] Fb [] [] [("add_beast",jB),("marked",bh)] []=some lU:=by kernel_rfl
theorem acf:rX ["ear","place","at","depth"] Pq [] ["tuple","enumerate"] [] []=some Hf:=by kernel_rfl
theorem adq:rX ["stand","event","owner","ground","due","ear","alive","word"] V1 [("deepened",.fq 2 wO)] [] [] []=some JF:=by kernel_rfl
theorem Uk:rY ["self","event"] Gp [("gone_on",.fq 2 yZ)] [] [("stand_so",jD),("stand",lO)] []=some yK:=by kernel_rfl
theorem V9:rY ["self","beast","found","due"] Jj [("joint",.fq 2 oZ)] [] [("befall",bK),("ask_ground",bT),("first_mark",bR),("living",bG)] []=some mZ:=by kernel_rfl
theorem Tz:rY ["self","beast","place","found"] FW [("Deepest",.exc),("GREATEST_DEPTH",.con cQ),("NoPlace",.exc),("PLACES",.con iI)] ["len"] [("befall",bK),("living",bG)] []=some jc:=by kernel_rfl
theorem Wh:rX ["self","mother","number","beast"] Jl [] [] [("all_living",dN),("known",fj)] []=some u6:=by kernel_rfl
theorem KQ:rY ["self","mother","beast","number","calf"] zF [] [] [("calves",yC),("befall",bK),("known",fj)] []=some sJ:=by kernel_rfl
theorem RL:rY ["self","beast","buyer","found","due"] Ey [("ask_room",.fq 4 oG),("joint",.fq 2 oZ),("SameOwner",.exc)] [] [("lead_calves",iw),("befall",bK),("room",bY),("standing_but",cX),("first_mark",bR),("need_right",aJ),("need_owner",aC),("marked",bh)] []=some fB:=by kernel_rfl
theorem SN:rY ["self","beast","ground","found","left"] Fv [("SameGround",.exc)] [] [("lead_calves",iw),("befall",bK),("ask_ground",bT),("need_right",aJ),("need",aG),("marked",bh)] []=some fG:=by kernel_rfl
theorem Wm:rY ["self","beast"] Jh [] [] [("befall",bK),("living",bG)] []=some qH:=by kernel_rfl
theorem abS:rX ["rows","room","tidy","at","row","greater"] QC [("meet",.fq 3 qN),("tidied",.fq 1 pZ)] ["enumerate"] [] []=some Ho:=by kernel_rfl
theorem JR:rX ["self","ground","other","room"] zK [("clashing",.fq 2 uf)] ["max"] [("standing",cD),("room",bY)] []=some tH:=by kernel_rfl
theorem MF:rY ["self","grounds","circle","ground"] Ay [] ["tuple"] [] []=some uH:=by kernel_rfl
theorem Ry:rY ["self","ground","other","ones","others"] Dr [("Together",.exc)] ["sorted"] [("enclose",fZ),("together",bB)] []=some rK:=by kernel_rfl
theorem QZ:rY ["self","ground","other","pairs","row","greater"] DQ [("Clash",.exi ["ones","others","ear"]),("joint",.fq 2 oZ),("Together",.exc)] [] [("unite",vL),("quarrels",mO),("together",bQ),("need",aG)] []=some jg:=by kernel_rfl
theorem R4:rY ["self","ground","left","near"] Gv [("Alone",.exc)] [] [("enclose",fZ),("together",bB)] []=some oW:=by kernel_rfl
theorem Ud:rY ["self","ground"] Ew [] [] [("part",ou)] []=some pK:=by kernel_rfl
theorem JM:rY ["self","elder","heir","owner","ground","mark"] yX [] [] [] []=some tG:=by kernel_rfl
theorem Xn:rX ["self","owner","number","beast"] Kh [] [] [("all_living",dN)] []=some Cr:=by kernel_rfl
theorem Mu:rY ["self","elder","heir","passed","number","beast"] Ao [("SameOwner",.exc)] [] [("befall",bK),("owned",Ah),("hand_over",rE),("need_owner",aC)] []=some jC:=by kernel_rfl
theorem Z0:rX ["kind","part","greatest"] MJ [("PLACES",.con iI),("GREATEST_PART",.con nY),("is_ear",.fq 1 tK)] ["isinstance","int","len","tuple"] [] []=some uN:=by kernel_rfl
theorem aj3:rX ["deed","shape","parts","kind","part"] adZ [("part_fits",.fq 2 iG),("SHAPES",.dic (yR yh))] ["all","zip","len"] [] []=some X8:=by kernel_rfl
theorem Xu:rY ["self","deed","word","parts"] JQ [("BadDeed",.exc),("fits",.fq 1 Fj)] [] [("new_heir",qY),("pass_on",sY),("part",wz),("unite",vO),("die",xZ),("move",w6),("sell",wJ),("tear",jo),("cut",yd),("bear",wN),("bring",vP),("leave",vM),("enrol",vN),("new_ground",oX),("new_owner",gG)] []=some cU:=by kernel_rfl
theorem ait:rY ["_law_house","_law_deed_here","_law_counts","_law_told","_law_owners","_law_grounds","_law_beasts"] acA [("CommonError",.exc)] [] [("do",qK)] []=some J9:=by kernel_rfl
theorem ajw:rX ["_law_ear_here","_law_figures","_law_found","_law_depth","_law_figure","_law_more"] aeu [] ["tuple","zip","max","min"] [] ["_law_found"]=some Zt:=by kernel_rfl
theorem acR:rX ["_law_figures","_law_mode","_law_base"] U3 [("_law_ear_by",.fq 2 sO),("_law_near",.fq 2 Kc)] [] [] []=some JH:=by kernel_rfl
theorem als:rX ["_law_figure","_law_many","_law_sure"] af5 [] ["max"] [] []=some WM:=by kernel_rfl
theorem aj9:rX ["_law_word","_law_one","_law_two","_law_parts","_law_counts","_law_base","_law_sure","_law_mark"] adR [("_law_ref",.fq 3 jH),("_law_mark_by",.fq 3 vW)] ["int"] [] []=some jN:=by kernel_rfl
theorem aiB:rY ["_law_house","_law_cells","_law_head","_law_counts","_law_base","_law_begun_here","_law_at","_law_cell_here","_law_parts","_law_word","_law_one","_law_two","_law_k"] adT [("_law_done",.fg 3 qF),("_law_deed",.fq 6 eZ),("_law_word_by",.fq 1 zE),("_law_row",.fq 3 u9),("_law_begun",.fq 1 uM),("_law_ear",.fq 1 Ik)] ["range","enumerate","len"] [] []=some Qt:=by kernel_rfl
theorem aiy:rX ["_law_script","_law_k"] acp [] ["len"] [] []=some YQ:=by kernel_rfl
theorem ahU:rX ["_law_word","_law_cell_here","_law_counts","_law_head","_law_parts"] aaS [("_law_deed",.fq 6 eZ),("_law_ear",.fq 1 Ik),("_law_row",.fq 3 u9)] [] [] []=some RJ:=by kernel_rfl
theorem alo:rX ["_law_cell_here"] afT [] [] [] []=some W7:=by kernel_rfl
theorem ak6:rX ["_law_value","_law_cell_here","_law_turn"] af0 [("_law_cut",.fq 1 LC)] [] [] []=some W0:=by kernel_rfl
theorem abv:rX ["_law_stand","_law_beast","_law_cut_here"] Rq [] ["len"] [] []=some uh:=by kernel_rfl
theorem afA:rX ["_law_row_here","_law_owner","_law_ground","_law_due_here","_law_ear_here","_law_entry"] Ze [] [] [] []=some Oo:=by kernel_rfl
theorem alC:rX ["_law_stand","_law_beast","_law_place","_law_word","_law_row_here","_law_ear_here"] af8 [("_law_befell",.fq 6 BP),("_law_herd_bad",.fq 3 oK)] [] [] []=some CV:=by kernel_rfl
theorem ah0:rY ["_law_house","_law_beast","_law_place","_law_word","_law_told"] acU [("NoBeast",.exc),("Dead",.exc),("NoPlace",.exc),("Deepest",.exc)] [] [("tear",jo)] []=some Qe:=by kernel_rfl
theorem agB:rX ["_law_found"] abg [] ["isinstance","bool","int"] [] []=some Ug:=by kernel_rfl
theorem ain(r:Mo->List Dat->Out Dat):rd ⟨["_law_found","_law_due_here","_law_one","_law_other"],defScope Py,[("_law_like",.fq 2 r),("_law_whole",.fq 1 Es)],["zip","len","isinstance","list","tuple","str","int"],⟨[],jU,xmH,dfH,Vd⟩,[],true⟩ (defBody Py)=some (FP r):=by kernel_rfl
theorem ale:rY ["_law_script","_law_house","_law_head","_law_counts","_law_cell_here","_law_deed_here","_law_beast","_law_place","_law_turn","_law_due_here","_law_stand","_law_told"] Lw [("_law_like",.fq 2 (jx 10)),("_law_tell",.fg 3 BL),("_law_due",.fq 3 wC),("_law_raw",.fq 3 Hl),("_law_asked",.fq 4 jE),("_law_cell",.fq 2 uV),("_law_play",.fg 3 Bw),("Commons",.cls 0 lW)] ["range","abs"] [("look",eO)] []=some Ls:=by kernel_rfl
structure Top(w:World)(K:aqE)(mg:Str->Option Value):Prop where
 ex:∃h:Heap,K.In h/\h.Ns mainGlobals mg
 c:LR fa fn tbs exB w K
abbrev aj(w:World)(K:aqE):aO:=nM w K xsH jU
section
variable{P:Program}{w:World}{K:aqE}{mg:Str->Option Value}{base:Heap}{k:Nat}(T:Top w K mg)
include T
theorem Top.glo(i:Nat){x:Str}(h:fa[i]?=some (.glo x):=by rfl):mg x=some (.ref (He.ga K x)):=by
 obtain⟨_,X,G⟩:=T.ex
 exact He.glo_ok X G (T.c.oR i h)
theorem Top.free(i:Nat){x:Str}(h:fa[i]?=some (.free x):=by rfl):mg x=none:=by
 obtain⟨_,X,G⟩:=T.ex
 exact He.free_ok X G (T.c.oR i h)
theorem Top.int(i:Nat){x:Str}{j:Int}(h:fa[i]?=some (.int x j):=by rfl):∃t,mg x=some (.int j t):=by
 obtain⟨_,X,G⟩:=T.ex
 exact He.int_ok X G (T.c.oR i h)
theorem Top.str(i:Nat){x j:Str}(h:fa[i]?=some (.str x j):=by rfl):∃t,mg x=some (.str j t):=by
 obtain⟨_,X,G⟩:=T.ex
 exact He.str_ok X G (T.c.oR i h)
theorem vB:bf P w K mg base (aj w K) k "GREATEST_DEPTH" (.con cQ):=by
 obtain⟨t,h⟩:=T.int 151
 exact Ko h
theorem T5:bf P w K mg base (aj w K) k "FEWEST_EXTRA" (.con iQ):=by
 obtain⟨t,h⟩:=T.int 152
 exact Ko h
theorem XM:bf P w K mg base (aj w K) k "MOST_EXTRA" (.con jZ):=by
 obtain⟨t,h⟩:=T.int 153
 exact Ko h
theorem IW:bf P w K mg base (aj w K) k "GREATEST_ALLOWANCE" (.con gj):=by
 obtain⟨t,h⟩:=T.int 154
 exact Ko h
theorem Np:bf P w K mg base (aj w K) k "PLACES" (.con iI):=adx (T.glo 155) (fun H=>He.tupB_ok (He.ba (He.ba T.c.more).1).2 H) rfl rfl
theorem Rr:bf P w K mg base (aj w K) k "BARE_EAR" (.con jr):=adx (T.glo 156) (fun H=>He.tupB_ok (He.ba T.c.more).2 H) rfl rfl
theorem QM:bf P w K mg base (aj w K) k "GREATEST_PART" (.con nY):=by
 obtain⟨t,h⟩:=T.int 157
 exact Ko h
theorem afe:bf P w K mg base (aj w K) k "SHAPES" (.dic (yR yh)):=akI (T.glo 150) (He.ba (He.ba (He.ba T.c.more).1).1).2 (T.c.t.tab 0)
theorem abE:bf P w K mg base (aj w K) k "NoGround" .exc:=iH (by rfl) (T.glo 107) (T.c.oR 108)
theorem acE:bf P w K mg base (aj w K) k "NoOwner" .exc:=iH (by rfl) (T.glo 109) (T.c.oR 110)
theorem Vf:bf P w K mg base (aj w K) k "NoRight" .exc:=iH (by rfl) (T.glo 111) (T.c.oR 112)
theorem RB:bf P w K mg base (aj w K) k "HasRight" .exc:=iH (by rfl) (T.glo 113) (T.c.oR 114)
theorem abR:bf P w K mg base (aj w K) k "NoneFree" .exc:=iH (by rfl) (T.glo 115) (T.c.oR 116)
theorem abX:bf P w K mg base (aj w K) k "BadExtra" .exc:=iH (by rfl) (T.glo 117) (T.c.oR 118)
theorem Ub:bf P w K mg base (aj w K) k "BadAllowance" .exc:=iH (by rfl) (T.glo 119) (T.c.oR 120)
theorem ae1:bf P w K mg base (aj w K) k "BadEar" .exc:=iH (by rfl) (T.glo 122) (T.c.oR 123)
theorem ajB:bf P w K mg base (aj w K) k "Bare" .exc:=iH (by rfl) (T.glo 124) (T.c.oR 125)
theorem YW:bf P w K mg base (aj w K) k "StillThere" .exc:=iH (by rfl) (T.glo 126) (T.c.oR 127)
theorem Vj:bf P w K mg base (aj w K) k "NoBeast" .exc:=iH (by rfl) (T.glo 128) (T.c.oR 129)
theorem acy:bf P w K mg base (aj w K) k "Dead" .exc:=iH (by rfl) (T.glo 130) (T.c.oR 131)
theorem abO:bf P w K mg base (aj w K) k "Unmarked" .exc:=iH (by rfl) (T.glo 132) (T.c.oR 133)
theorem VD:bf P w K mg base (aj w K) k "Deepest" .exc:=iH (by rfl) (T.glo 134) (T.c.oR 135)
theorem U0:bf P w K mg base (aj w K) k "NoPlace" .exc:=iH (by rfl) (T.glo 136) (T.c.oR 137)
theorem M7:bf P w K mg base (aj w K) k "SameOwner" .exc:=iH (by rfl) (T.glo 138) (T.c.oR 139)
theorem Yv:bf P w K mg base (aj w K) k "SameGround" .exc:=iH (by rfl) (T.glo 140) (T.c.oR 141)
theorem RD:bf P w K mg base (aj w K) k "Together" .exc:=iH (by rfl) (T.glo 142) (T.c.oR 143)
theorem agT:bf P w K mg base (aj w K) k "Alone" .exc:=iH (by rfl) (T.glo 144) (T.c.oR 145)
theorem adl:bf P w K mg base (aj w K) k "BadDeed" .exc:=iH (by rfl) (T.glo 146) (T.c.oR 147)
theorem Ww:bf P w K mg base (aj w K) k "CommonError" .exc:=iH (by rfl) (T.glo 148) (T.c.oR 149)
theorem Top.agi:KY K jU=true:=(He.ba (He.ba (He.ba (He.ba (He.ba (He.ba T.c.more).1).1).1).1).1).2
theorem Top.xf:(Vd.all fun p=>xsH.contains p.1&&Uv K p.1 p.2)=true:=(He.ba (He.ba (He.ba (He.ba T.c.more).1).1).1).2
theorem Top.hs{Ms:List (Str×List (Str×MV))}(h:DY P w K mg base (aj w K) k Ms):R5 P w K mg base (aj w K) k ⟨Ms,jU,xmH,dfH,Vd⟩:=alV h T.agi (He.ba (He.ba (He.ba (He.ba (He.ba T.c.more).1).1).1).1).2 (by rfl) T.xf
theorem Top.cls{c:Str}{fs:List Str}(h:jU.lookup c=some fs:=by rfl):Cls K (He.ga K c):=(Xd T.agi h).1
local macro_rules | `(tactic| nofun)=>`(tactic| first | (exact fun _ _ _ _ _ _ us hl=>match us,hl with | [_],_=>rfl) | (exact fun _ _ _ _ _ _ us hl=>match us,hl with | [_,_],_=>rfl) | (exact fun _ _ _ _ _ _ us hl=>match us,hl with | [_,_,_],_=>rfl) | (exact fun _ _ _ _ _ _ us hl=>match us,hl with | [_,_,_,_],_=>rfl) | (exact fun _ _ _ _ _ _ us hl=>match us,hl with | [_,_,_,_,_],_=>rfl) | (exact fun _ _ _ _ _ _ us hl=>match us,hl with | [_,_,_,_,_,_],_=>rfl) | (exact fun _ _ _ _ _ _ us hl=>match us,hl with | [_,_,_,_,_,_,_],_=>rfl) | (exact fun _ _ _ _ _ _ us hl=>match us,hl with | [_,_,_,_,_,_,_,_],_=>rfl))
theorem vQ(i j:Nat){x:Str}{k0:Nat}(hk:k0+1<=k){st:Stmt}{N ps ml B:List Str}{G:List (Str×GV)}{Ms:List (Str×List (Str×MV))}{body:SF}(h:rX N st G B Ms ml=some body)(g:Cq P w K mg base (aj w K) k0 G)(b:BJ mg B)(ms:DY P w K mg base (aj w K) k0 Ms)(hi:fn[i]?=some (dF x st):=by rfl)(hj:fa[j]?=some (.glo x):=by rfl)(S:FnScope N ps (defScope st):=by exact⟨rfl,rfl,rfl,by decide +kernel,rfl,by decide +kernel,by decide +kernel⟩)(hb:∀(kV doc pm:Value) (an:Option Addr) (cdv ct:Value) (us:List Value),us.length=ps.length->bindArgs (PySem.W.fnOf x x (defArgs st) (defBody st) (defScope st) .none kV doc pm an cdv ct) ⟨us,[]⟩=pure (ps.zip us):=by nofun):bf P w K mg base (aj w K) k x (.fq ps.length (mQ N.length body)):=by
 obtain⟨fd,F⟩:=T.c.Vi i hi
 exact aft hk (T.glo j hj) F.kp (FunD.bindsN (ps:=ps) F hb) (Yc (Ds F) S g b (T.hs ms) h)
theorem wQ(i j:Nat){c m q:Str}{k0:Nat}(hk:k0+1<=k){st:Stmt}{N ps ml B:List Str}{G:List (Str×GV)}{Ms:List (Str×List (Str×MV))}{body:SF}(h:rX N st G B Ms ml=some body)(g:Cq P w K mg base (aj w K) k0 G)(b:BJ mg B)(ms:DY P w K mg base (aj w K) k0 Ms)(hi:fn[i]?=some (dM c m q st):=by rfl)(hj:fa[j]?=some (.meth c m):=by rfl)(hx:xsH.contains c=true:=by rfl){fs:List Str}(hc:jU.lookup c=some fs:=by rfl)(hf:((jU.lookup c).getD []).contains m=false:=by rfl)(S:FnScope N ps (defScope st):=by exact⟨rfl,rfl,rfl,by decide +kernel,rfl,by decide +kernel,by decide +kernel⟩)(hb:∀(kV doc pm:Value) (an:Option Addr) (cdv ct:Value) (us:List Value),us.length=ps.length->bindArgs (PySem.W.fnOf m q (defArgs st) (defBody st) (defScope st) .none kV doc pm an cdv ct) ⟨us,[]⟩=pure (ps.zip us):=by nofun):bV P w K mg base (aj w K) k c m (.q ps.length (mQ N.length body)):=by
 obtain⟨fd,F⟩:=T.c.Vi i hi
 exact amm hk hx (T.cls hc) (T.c.oR j hj) hf (FunD.bindsN (ps:=ps) F hb) (Yc (Ds F) S g b (T.hs ms) h)
theorem vG(i j:Nat){x:Str}{k0:Nat}(hk:k0+1<=k){st:Stmt}{N ps ml B:List Str}{G:List (Str×GV)}{Ms:List (Str×List (Str×MV))}{body:SF}(h:rY N st G B Ms ml=some body)(g:Cq P w K mg base (aj w K) k0 G)(b:BJ mg B)(ms:DY P w K mg base (aj w K) k0 Ms)(hi:fn[i]?=some (dF x st):=by rfl)(hj:fa[j]?=some (.glo x):=by rfl)(S:FnScope N ps (defScope st):=by exact⟨rfl,rfl,rfl,by decide +kernel,rfl,by decide +kernel,by decide +kernel⟩)(hb:∀(kV doc pm:Value) (an:Option Addr) (cdv ct:Value) (us:List Value),us.length=ps.length->bindArgs (PySem.W.fnOf x x (defArgs st) (defBody st) (defScope st) .none kV doc pm an cdv ct) ⟨us,[]⟩=pure (ps.zip us):=by nofun):bf P w K mg base (aj w K) k x (.fg ps.length (mG N.length body)):=by
 obtain⟨fd,F⟩:=T.c.Vi i hi
 exact anc hk (T.glo j hj) F.kp (FunD.bindsN (ps:=ps) F hb) (PB (Ds F) S g b (T.hs ms) h)
theorem wG(i j:Nat){c m q:Str}{k0:Nat}(hk:k0+1<=k){st:Stmt}{N ps ml B:List Str}{G:List (Str×GV)}{Ms:List (Str×List (Str×MV))}{body:SF}(h:rY N st G B Ms ml=some body)(g:Cq P w K mg base (aj w K) k0 G)(b:BJ mg B)(ms:DY P w K mg base (aj w K) k0 Ms)(hi:fn[i]?=some (dM c m q st):=by rfl)(hj:fa[j]?=some (.meth c m):=by rfl)(hx:xsH.contains c=true:=by rfl){fs:List Str}(hc:jU.lookup c=some fs:=by rfl)(hf:((jU.lookup c).getD []).contains m=false:=by rfl)(S:FnScope N ps (defScope st):=by exact⟨rfl,rfl,rfl,by decide +kernel,rfl,by decide +kernel,by decide +kernel⟩)(hb:∀(kV doc pm:Value) (an:Option Addr) (cdv ct:Value) (us:List Value),us.length=ps.length->bindArgs (PySem.W.fnOf m q (defArgs st) (defBody st) (defScope st) .none kV doc pm an cdv ct) ⟨us,[]⟩=pure (ps.zip us):=by nofun):bV P w K mg base (aj w K) k c m (.g ps.length (mG N.length body)):=by
 obtain⟨fd,F⟩:=T.c.Vi i hi
 exact amL hk hx (T.cls hc) (T.c.oR j hj) hf (FunD.bindsN (ps:=ps) F hb) (PB (Ds F) S g b (T.hs ms) h)
theorem vI(i j l:Nat){c q:Str}{n:Nat}{k0:Nat}{st:Stmt}{N ps ml B:List Str}{G:List (Str×GV)}{Ms:List (Str×List (Str×MV))}{body:SF}(h:rY N st G B Ms ml=some body)(g:Cq P w K mg base (aj w K) k0 G)(b:BJ mg B)(ms:DY P w K mg base (aj w K) k0 Ms)(hk:k0+1+1<=k)(hi:fn[i]?=some (dM c "__init__" q st):=by rfl)(hj:fa[j]?=some (.mkr c):=by rfl)(hg:fa[l]?=some (.glo c):=by rfl)(hx:xsH.contains c=true:=by rfl){fs:List Str}(hc:jU.lookup c=some fs:=by rfl)(hp:ps.length=n+1:=by rfl)(S:FnScope N ps (defScope st):=by exact⟨rfl,rfl,rfl,by decide +kernel,rfl,by decide +kernel,by decide +kernel⟩)(hb:∀(kV doc pm:Value) (an:Option Addr) (cdv ct:Value) (us:List Value),us.length=ps.length->bindArgs (PySem.W.fnOf "__init__" q (defArgs st) (defBody st) (defScope st) .none kV doc pm an cdv ct) ⟨us,[]⟩=pure (ps.zip us):=by nofun):bf P w K mg base (aj w K) k c (.cls n (mG N.length body)):=by
 obtain⟨fd,F⟩:=T.c.Vi i hi
 exact ajm hk hx (T.glo l hg) (T.cls hc) (T.c.oR j hj) hp (FunD.bindsN (ps:=ps) F hb) (PB (Ds F) S g b (T.hs ms) h)
theorem aa0(hk:2<=k):bf P w K mg base (aj w K) k "Clash" (.exi ["ones","others","ear"]):=by
 have ho:Uv K "Clash" ["ones","others","ear"]=true:=(He.ba (aqZ.mp T.xf _ (show(("Clash" : Str),(["ones","others","ear"]:List Str))∈Vd by simp[Vd]))).2
 obtain⟨o1,o2,o3,o4,o5⟩:=R8 ho
 obtain⟨fd,F⟩:=T.c.Vi 102
 have b:=FunD.bindsN (ps:=["self","ones","others","ear"]) F fun _ _ _ _ _ _ us hl=>match us,hl with|[_,_,_,_],_=>rfl
 exact aij hk (by rfl) (T.glo 121) ho rfl b (adI (Ds F) Ws o1 (by rfl) (by decide) (o5 _ (by decide)) (o5 _ (by decide)) (o5 _ (by decide)))
theorem aej(hk:2<=k:=by omega):bf P w K mg base (aj w K) k "Grounds" (.cls 0 uE):=vI T 0 0 102 (ps:=["self"]) R7 trivial trivial trivial hk
theorem aeU(hk:2<=k:=by omega):bf P w K mg base (aj w K) k "Rights" (.cls 0 uY):=vI T 1 1 103 (ps:=["self"]) V7 trivial trivial trivial hk
theorem aiM(hk:2<=k:=by omega):bf P w K mg base (aj w K) k "Herd" (.cls 0 yU):=vI T 2 2 104 (ps:=["self"]) Z9 trivial trivial trivial hk
theorem acL(hk:4<=k:=by omega):bf P w K mg base (aj w K) k "Commons" (.cls 0 lW):=vI T 3 3 105 (ps:=["self"]) T8 ⟨aiM T,aeU T,aej T,trivial⟩ trivial trivial hk
theorem El(hk:1<=k:=by omega):bV P w K mg base (aj w K) k "Beast" "stand" (.q 1 vf):=wQ T 4 4 hk (ps:=["self"]) Wq trivial trivial trivial
theorem WD(hk:2<=k:=by omega):bV P w K mg base (aj w K) k "Beast" "told" (.q 1 wZ):=wQ T 5 5 hk (ps:=["self"]) YH trivial ⟨T.free 158,trivial⟩ ⟨⟨El T,trivial⟩,trivial⟩
theorem Mv(hk:1<=k:=by omega):bV P w K mg base (aj w K) k "Commons" "owners" (.q 1 qp):=wQ T 6 6 hk (ps:=["self"]) O9 trivial ⟨T.free 159,trivial⟩ trivial
theorem Kr(hk:1<=k:=by omega):bV P w K mg base (aj w K) k "Rights" "all_rows" (.q 1 oV):=wQ T 7 7 hk (ps:=["self"]) Mx trivial ⟨T.free 159,trivial⟩ trivial
theorem vZ(hk:1<=k:=by omega):bV P w K mg base (aj w K) k "Grounds" "many" (.q 1 o7):=wQ T 8 8 hk (ps:=["self"]) Sq trivial ⟨T.free 160,trivial⟩ trivial
theorem RP(hk:2<=k:=by omega):bV P w K mg base (aj w K) k "Grounds" "has" (.q 2 vh):=wQ T 9 9 hk (ps:=["self","ground"]) Wb trivial trivial ⟨⟨vZ T,trivial⟩,trivial⟩
theorem gW(hk:3<=k:=by omega):bV P w K mg base (aj w K) k "Grounds" "need" (.q 2 ux):=wQ T 10 10 hk (ps:=["self","ground"]) Tj ⟨abE T,trivial⟩ trivial ⟨⟨RP T,trivial⟩,trivial⟩
theorem v7(hk:4<=k:=by omega):bV P w K mg base (aj w K) k "Grounds" "allowance" (.q 2 jK):=wQ T 11 11 hk (ps:=["self","ground"]) Ju trivial trivial ⟨⟨gW T,trivial⟩,trivial⟩
theorem mU(hk:4<=k:=by omega):bV P w K mg base (aj w K) k "Grounds" "together" (.q 2 j6):=wQ T 12 12 hk (ps:=["self","ground"]) KH trivial ⟨T.free 159,trivial⟩ ⟨⟨gW T,trivial⟩,trivial⟩
theorem rB(hk:5<=k:=by omega):bV P w K mg base (aj w K) k "Commons" "together" (.q 2 j5):=wQ T 13 13 hk (ps:=["self","ground"]) Le trivial trivial ⟨⟨mU T,trivial⟩,trivial⟩
theorem Qq(hk:6<=k:=by omega):bV P w K mg base (aj w K) k "Commons" "look" (.q 1 pN):=wQ T 14 14 hk (ps:=["self"]) Uq trivial ⟨T.free 161,T.free 158,trivial⟩ ⟨⟨Kr T,trivial⟩,⟨Mv T,trivial⟩,⟨WD T,trivial⟩,⟨vZ T,trivial⟩,⟨rB T,trivial⟩,⟨v7 T,trivial⟩,trivial⟩
theorem abN(hk:1<=k:=by omega):bf P w K mg base (aj w K) k "_law_row" (.fq 3 u9):=vQ T 15 15 hk (ps:=["_law_cell_here","_law_many","_law_base"]) alv trivial ⟨T.free 161,T.free 162,trivial⟩ trivial
theorem YG(hk:1<=k:=by omega):bf P w K mg base (aj w K) k "_law_ear_by" (.fq 2 sO):=vQ T 16 16 hk (ps:=["_law_figures","_law_mode"]) aey trivial ⟨T.free 158,T.free 163,trivial⟩ trivial
theorem agd(hk:2<=k:=by omega):bf P w K mg base (aj w K) k "_law_ear" (.fq 1 Ik):=vQ T 17 17 hk (ps:=["_law_cell_here"]) alL ⟨YG T,abN T,trivial⟩ trivial trivial
theorem Z5(hk:1<=k:=by omega):bf P w K mg base (aj w K) k "_law_begun" (.fq 1 uM):=vQ T 18 18 hk (ps:=["_law_head"]) Z7 trivial trivial trivial
theorem acP(hk:1<=k:=by omega):bf P w K mg base (aj w K) k "_law_word_by" (.fq 1 zE):=vQ T 19 19 hk (ps:=["_law_figure"]) aes trivial trivial trivial
theorem fX(hk:1<=k:=by omega):bV P w K mg base (aj w K) k "Commons" "need_owner" (.q 2 jw):=wQ T 20 20 hk (ps:=["self","owner"]) Ip ⟨acE T,trivial⟩ trivial trivial
theorem rJ(hk:1<=k:=by omega):bV P w K mg base (aj w K) k "Rights" "marks" (.q 3 uz):=wQ T 21 21 hk (ps:=["self","owner","ground"]) T6 trivial trivial trivial
theorem Jr(hk:2<=k:=by omega):bV P w K mg base (aj w K) k "Rights" "has_right" (.q 3 nJ):=wQ T 22 22 hk (ps:=["self","owner","ground"]) JL trivial ⟨T.free 160,trivial⟩ ⟨⟨rJ T,trivial⟩,trivial⟩
theorem iV(hk:3<=k:=by omega):bV P w K mg base (aj w K) k "Commons" "need_right" (.q 3 lG):=wQ T 23 23 hk (ps:=["self","owner","ground"]) Ig ⟨Vf T,trivial⟩ trivial ⟨⟨Jr T,trivial⟩,trivial⟩
theorem wA(hk:1<=k:=by omega):bV P w K mg base (aj w K) k "Commons" "new_owner" (.g 1 ig):=wG T 24 24 hk (ps:=["self"]) Jx trivial trivial trivial
theorem xO(hk:1<=k:=by omega):bV P w K mg base (aj w K) k "Rights" "add_right" (.g 4 iU):=wG T 25 25 hk (ps:=["self","owner","ground","mark"]) JW ⟨RB T,trivial⟩ trivial trivial
theorem ajb(hk:1<=k:=by omega):bf P w K mg base (aj w K) k "torn" (.fq 2 KR):=vQ T 26 26 hk (ps:=["ear","many"]) akb ⟨vB T,trivial⟩ ⟨T.free 161,T.free 164,trivial⟩ trivial
theorem aaI(hk:1<=k:=by omega):bf P w K mg base (aj w K) k "lacks" (.fq 2 tY):=vQ T 27 27 hk (ps:=["one","other"]) ahK trivial ⟨T.free 165,T.free 166,trivial⟩ trivial
theorem aak(hk:2<=k:=by omega):bf P w K mg base (aj w K) k "offspring" (.fq 2 uR):=vQ T 28 28 hk (ps:=["mark","extra"]) aai ⟨aaI T,ajb T,trivial⟩ trivial trivial
theorem agK(hk:2<=k:=by omega):bf P w K mg base (aj w K) k "apart" (.fq 2 Gn):=vQ T 29 29 hk (ps:=["one","other"]) agr ⟨aaI T,trivial⟩ ⟨T.free 163,trivial⟩ trivial
theorem Yo(hk:3<=k:=by omega):bf P w K mg base (aj w K) k "meet" (.fq 3 qN):=vQ T 30 30 hk (ps:=["one","other","room"]) aiC ⟨agK T,trivial⟩ trivial trivial
theorem Ys(hk:4<=k:=by omega):bf P w K mg base (aj w K) k "first_free" (.fq 4 o9):=vQ T 31 31 hk (ps:=["mark","extra","rows","room"]) Yi ⟨abR T,aak T,Yo T,trivial⟩ ⟨T.free 167,trivial⟩ trivial
theorem pH(hk:2<=k:=by omega):bV P w K mg base (aj w K) k "Commons" "first_mark" (.q 3 lK):=wQ T 32 32 hk (ps:=["self","owner","ground"]) Ht trivial trivial ⟨⟨rJ T,trivial⟩,trivial⟩
theorem Ov(hk:1<=k:=by omega):bf P w K mg base (aj w K) k "tidied" (.fq 1 pZ):=vQ T 33 33 hk (ps:=["rows"]) aeT trivial ⟨T.free 168,T.free 169,trivial⟩ trivial
theorem sH(hk:1<=k:=by omega):bV P w K mg base (aj w K) k "Herd" "all_living" (.q 1 oU):=wQ T 34 34 hk (ps:=["self"]) Mz trivial ⟨T.free 170,trivial⟩ trivial
theorem Df(hk:2<=k:=by omega):bV P w K mg base (aj w K) k "Herd" "grazing" (.q 2 pJ):=wQ T 35 35 hk (ps:=["self","grounds"]) SJ trivial trivial ⟨⟨sH T,trivial⟩,trivial⟩
theorem Jd(hk:1<=k:=by omega):bV P w K mg base (aj w K) k "Rights" "in_grounds" (.q 2 mV):=wQ T 36 36 hk (ps:=["self","grounds"]) Jt trivial trivial trivial
theorem uG(hk:6<=k:=by omega):bV P w K mg base (aj w K) k "Commons" "standing_but" (.q 3 iz):=wQ T 37 37 hk (ps:=["self","left_out","ground"]) DW ⟨Ov T,trivial⟩ trivial ⟨⟨Jd T,trivial⟩,⟨Df T,trivial⟩,⟨rB T,trivial⟩,trivial⟩
theorem qW(hk:7<=k:=by omega):bV P w K mg base (aj w K) k "Commons" "standing" (.q 2 jY):=wQ T 38 38 hk (ps:=["self","ground"]) KJ trivial trivial ⟨⟨uG T,trivial⟩,trivial⟩
theorem PN(hk:5<=k:=by omega):bV P w K mg base (aj w K) k "Grounds" "room" (.q 2 pO):=wQ T 39 39 hk (ps:=["self","ground"]) SQ trivial ⟨T.free 163,trivial⟩ ⟨⟨mU T,trivial⟩,⟨v7 T,trivial⟩,trivial⟩
theorem rO(hk:6<=k:=by omega):bV P w K mg base (aj w K) k "Commons" "room" (.q 2 pF):=wQ T 40 40 hk (ps:=["self","ground"]) Sy trivial trivial ⟨⟨PN T,trivial⟩,trivial⟩
theorem Jy(hk:8<=k:=by omega):bV P w K mg base (aj w K) k "Commons" "new_heir" (.g 4 cR):=wG T 41 41 hk (ps:=["self","elder","ground","extra"]) Ks ⟨Ys T,abX T,T5 T,XM T,trivial⟩ trivial ⟨⟨xO T,trivial⟩,⟨wA T,trivial⟩,⟨rO T,trivial⟩,⟨qW T,trivial⟩,⟨pH T,trivial⟩,⟨iV T,trivial⟩,⟨gW T,trivial⟩,⟨fX T,trivial⟩,trivial⟩
theorem EY(hk:2<=k:=by omega):bV P w K mg base (aj w K) k "Grounds" "add_ground" (.g 2 eU):=wG T 42 42 hk (ps:=["self","allowance"]) Hw ⟨Ub T,IW T,trivial⟩ trivial ⟨⟨vZ T,trivial⟩,trivial⟩
theorem FZ(hk:3<=k:=by omega):bV P w K mg base (aj w K) k "Commons" "new_ground" (.g 2 gD):=wG T 43 43 hk (ps:=["self","allowance"]) HD trivial trivial ⟨⟨EY T,trivial⟩,trivial⟩
theorem aed(hk:4<=k:=by omega):bf P w K mg base (aj w K) k "barring" (.fq 4 zA):=vQ T 44 44 hk (ps:=["owner","ear","rows","room"]) acN ⟨Yo T,Ov T,trivial⟩ trivial trivial
theorem Lh(hk:1<=k:=by omega):bf P w K mg base (aj w K) k "joint" (.fq 2 oZ):=vQ T 45 45 hk (ps:=["one","other"]) agZ trivial ⟨T.free 158,T.free 166,T.free 163,trivial⟩ trivial
theorem Qz(hk:5<=k:=by omega):bf P w K mg base (aj w K) k "ask_room" (.fq 4 oG):=vQ T 46 46 hk (ps:=["owner","ear","rows","room"]) abL ⟨aa0 T (by decide),Lh T,aed T,trivial⟩ trivial trivial
theorem pP(hk:8<=k:=by omega):bV P w K mg base (aj w K) k "Commons" "ask_ground" (.q 4 gA):=wQ T 47 47 hk (ps:=["self","owner","ear","ground"]) Ih ⟨Qz T,trivial⟩ trivial ⟨⟨rO T,trivial⟩,⟨qW T,trivial⟩,trivial⟩
theorem Y6(hk:1<=k:=by omega):bf P w K mg base (aj w K) k "is_ear" (.fq 1 tK):=vQ T 48 48 hk (ps:=["parts"]) afl ⟨vB T,Np T,trivial⟩ ⟨T.free 171,T.free 160,trivial⟩ trivial
theorem QV(hk:2<=k:=by omega):bf P w K mg base (aj w K) k "need_ear" (.fq 1 qm):=vQ T 49 49 hk (ps:=["parts"]) ab4 ⟨ae1 T,Y6 T,trivial⟩ trivial trivial
theorem Oc(hk:9<=k:=by omega):bV P w K mg base (aj w K) k "Commons" "enrol" (.g 4 dU):=wG T 50 50 hk (ps:=["self","owner","ground","mark"]) Rm ⟨RB T,ajB T,Rr T,QV T,trivial⟩ trivial ⟨⟨xO T,trivial⟩,⟨pP T,trivial⟩,⟨rJ T,trivial⟩,⟨gW T,trivial⟩,⟨fX T,trivial⟩,trivial⟩
theorem Ut(hk:2<=k:=by omega):bV P w K mg base (aj w K) k "Rights" "drop" (.g 3 m9):=wG T 51 51 hk (ps:=["self","owner","ground"]) V6 ⟨Vf T,trivial⟩ trivial ⟨⟨rJ T,trivial⟩,trivial⟩
theorem Nz(hk:4<=k:=by omega):bV P w K mg base (aj w K) k "Commons" "leave" (.g 3 fP):=wG T 52 52 hk (ps:=["self","owner","ground"]) Rc ⟨YW T,trivial⟩ ⟨T.free 167,trivial⟩ ⟨⟨Ut T,trivial⟩,⟨Df T,trivial⟩,⟨iV T,trivial⟩,⟨gW T,trivial⟩,⟨fX T,trivial⟩,trivial⟩
theorem Ax(hk:1<=k:=by omega):bV P w K mg base (aj w K) k "Beast" "stand_so" (.g 2 lZ):=wG T 53 53 hk (ps:=["self","stand"]) NT trivial trivial trivial
theorem agz(hk:1<=k:=by omega):bf P w K mg base (aj w K) k "begun" (.fq 1 Bq):=vQ T 54 54 hk (ps:=["first"]) agN ⟨Rr T,trivial⟩ trivial trivial
theorem ahp(hk:3<=k:=by omega):bf P w K mg base (aj w K) k "Beast" (.cls 1 tL):=vI T 55 55 106 (ps:=["self","first"]) YX ⟨agz T,trivial⟩ trivial ⟨⟨Ax T,trivial⟩,trivial⟩ hk
theorem Av(hk:4<=k:=by omega):bV P w K mg base (aj w K) k "Herd" "add_beast" (.g 2 qb):=wG T 56 56 hk (ps:=["self","first"]) N7 ⟨ahp T,trivial⟩ ⟨T.free 160,trivial⟩ trivial
theorem N8(hk:5<=k:=by omega):bV P w K mg base (aj w K) k "Commons" "bring" (.g 4 fW):=wG T 57 57 hk (ps:=["self","owner","ground","ear"]) Pg ⟨QV T,trivial⟩ trivial ⟨⟨Av T,trivial⟩,⟨iV T,trivial⟩,⟨gW T,trivial⟩,⟨fX T,trivial⟩,trivial⟩
theorem Ad(hk:1<=k:=by omega):bV P w K mg base (aj w K) k "Herd" "known" (.q 2 kh):=wQ T 58 58 hk (ps:=["self","number"]) YD ⟨Vj T,trivial⟩ ⟨T.free 160,trivial⟩ trivial
theorem tZ(hk:2<=k:=by omega):bV P w K mg base (aj w K) k "Herd" "living" (.q 2 qM):=wQ T 59 59 hk (ps:=["self","number"]) Wi ⟨acy T,trivial⟩ trivial ⟨⟨Ad T,trivial⟩,trivial⟩
theorem yH(hk:3<=k:=by omega):bV P w K mg base (aj w K) k "Herd" "marked" (.q 2 nu):=wQ T 60 60 hk (ps:=["self","number"]) Wx ⟨abO T,trivial⟩ trivial ⟨⟨tZ T,trivial⟩,trivial⟩
theorem QH(hk:5<=k:=by omega):bV P w K mg base (aj w K) k "Commons" "bear" (.g 2 iZ):=wG T 61 61 hk (ps:=["self","mother"]) RW trivial trivial ⟨⟨Av T,trivial⟩,⟨yH T,trivial⟩,trivial⟩
theorem abD(hk:1<=k:=by omega):bf P w K mg base (aj w K) k "deepened" (.fq 2 wO):=vQ T 62 62 hk (ps:=["ear","place"]) acf trivial ⟨T.free 158,T.free 170,trivial⟩ trivial
theorem acB(hk:2<=k:=by omega):bf P w K mg base (aj w K) k "gone_on" (.fq 2 yZ):=vQ T 63 63 hk (ps:=["stand","event"]) adq ⟨abD T,trivial⟩ trivial trivial
theorem jA(hk:3<=k:=by omega):bV P w K mg base (aj w K) k "Beast" "befall" (.g 2 lQ):=wG T 64 64 hk (ps:=["self","event"]) Uk ⟨acB T,trivial⟩ trivial ⟨⟨Ax T,trivial⟩,⟨El T,trivial⟩,trivial⟩
theorem Uh(hk:9<=k:=by omega):bV P w K mg base (aj w K) k "Commons" "cut" (.g 2 jF):=wG T 65 65 hk (ps:=["self","beast"]) V9 ⟨Lh T,trivial⟩ trivial ⟨⟨jA T,trivial⟩,⟨pP T,trivial⟩,⟨pH T,trivial⟩,⟨tZ T,trivial⟩,trivial⟩
theorem DK(hk:4<=k:=by omega):bV P w K mg base (aj w K) k "Commons" "tear" (.g 3 fD):=wG T 66 66 hk (ps:=["self","beast","place"]) Tz ⟨VD T,vB T,U0 T,Np T,trivial⟩ ⟨T.free 160,trivial⟩ ⟨⟨jA T,trivial⟩,⟨tZ T,trivial⟩,trivial⟩
theorem Um(hk:2<=k:=by omega):bV P w K mg base (aj w K) k "Herd" "calves" (.q 2 qJ):=wQ T 67 67 hk (ps:=["self","mother"]) Wh trivial trivial ⟨⟨sH T,trivial⟩,⟨Ad T,trivial⟩,trivial⟩
theorem xJ(hk:4<=k:=by omega):bV P w K mg base (aj w K) k "Herd" "lead_calves" (.g 2 oJ):=wG T 68 68 hk (ps:=["self","mother"]) KQ trivial trivial ⟨⟨Um T,trivial⟩,⟨jA T,trivial⟩,⟨Ad T,trivial⟩,trivial⟩
theorem Rh(hk:7<=k:=by omega):bV P w K mg base (aj w K) k "Commons" "sell" (.g 3 dG):=wG T 69 69 hk (ps:=["self","beast","buyer"]) RL ⟨Qz T,Lh T,M7 T,trivial⟩ trivial ⟨⟨xJ T,trivial⟩,⟨jA T,trivial⟩,⟨rO T,trivial⟩,⟨uG T,trivial⟩,⟨pH T,trivial⟩,⟨iV T,trivial⟩,⟨fX T,trivial⟩,⟨yH T,trivial⟩,trivial⟩
theorem QL(hk:9<=k:=by omega):bV P w K mg base (aj w K) k "Commons" "move" (.g 3 dD):=wG T 70 70 hk (ps:=["self","beast","ground"]) SN ⟨Yv T,trivial⟩ trivial ⟨⟨xJ T,trivial⟩,⟨jA T,trivial⟩,⟨pP T,trivial⟩,⟨iV T,trivial⟩,⟨gW T,trivial⟩,⟨yH T,trivial⟩,trivial⟩
theorem Td(hk:4<=k:=by omega):bV P w K mg base (aj w K) k "Commons" "die" (.g 2 lu):=wG T 71 71 hk (ps:=["self","beast"]) Wm trivial trivial ⟨⟨jA T,trivial⟩,⟨tZ T,trivial⟩,trivial⟩
theorem abP(hk:4<=k:=by omega):bf P w K mg base (aj w K) k "clashing" (.fq 2 uf):=vQ T 72 72 hk (ps:=["rows","room"]) abS ⟨Yo T,Ov T,trivial⟩ ⟨T.free 170,trivial⟩ trivial
theorem Jz(hk:8<=k:=by omega):bV P w K mg base (aj w K) k "Commons" "quarrels" (.q 3 j8):=wQ T 73 73 hk (ps:=["self","ground","other"]) JR ⟨abP T,trivial⟩ ⟨T.free 163,trivial⟩ ⟨⟨qW T,trivial⟩,⟨rO T,trivial⟩,trivial⟩
theorem zM(hk:1<=k:=by omega):bV P w K mg base (aj w K) k "Grounds" "enclose" (.g 2 lC):=wG T 74 74 hk (ps:=["self","grounds"]) MF trivial ⟨T.free 158,trivial⟩ trivial
theorem O6(hk:5<=k:=by omega):bV P w K mg base (aj w K) k "Grounds" "unite" (.g 3 kZ):=wG T 75 75 hk (ps:=["self","ground","other"]) Ry ⟨RD T,trivial⟩ ⟨T.free 168,trivial⟩ ⟨⟨zM T,trivial⟩,⟨mU T,trivial⟩,trivial⟩
theorem Ot(hk:9<=k:=by omega):bV P w K mg base (aj w K) k "Commons" "unite" (.g 3 fV):=wG T 76 76 hk (ps:=["self","ground","other"]) QZ ⟨aa0 T (by decide),Lh T,RD T,trivial⟩ trivial ⟨⟨O6 T,trivial⟩,⟨Jz T,trivial⟩,⟨rB T,trivial⟩,⟨gW T,trivial⟩,trivial⟩
theorem Q7(hk:5<=k:=by omega):bV P w K mg base (aj w K) k "Grounds" "part" (.g 2 iT):=wG T 77 77 hk (ps:=["self","ground"]) R4 ⟨agT T,trivial⟩ trivial ⟨⟨zM T,trivial⟩,⟨mU T,trivial⟩,trivial⟩
theorem Px(hk:6<=k:=by omega):bV P w K mg base (aj w K) k "Commons" "part" (.g 2 jT):=wG T 78 78 hk (ps:=["self","ground"]) Ud trivial trivial ⟨⟨Q7 T,trivial⟩,trivial⟩
theorem Jv(hk:1<=k:=by omega):bV P w K mg base (aj w K) k "Rights" "hand_over" (.g 3 oH):=wG T 79 79 hk (ps:=["self","elder","heir"]) JM trivial trivial trivial
theorem Wz(hk:2<=k:=by omega):bV P w K mg base (aj w K) k "Herd" "owned" (.q 2 wX):=wQ T 80 80 hk (ps:=["self","owner"]) Xn trivial trivial ⟨⟨sH T,trivial⟩,trivial⟩
theorem La(hk:4<=k:=by omega):bV P w K mg base (aj w K) k "Commons" "pass_on" (.g 3 fJ):=wG T 81 81 hk (ps:=["self","elder","heir"]) Mu ⟨M7 T,trivial⟩ trivial ⟨⟨jA T,trivial⟩,⟨Wz T,trivial⟩,⟨Jv T,trivial⟩,⟨fX T,trivial⟩,trivial⟩
theorem aal(hk:2<=k:=by omega):bf P w K mg base (aj w K) k "part_fits" (.fq 2 iG):=vQ T 82 82 hk (ps:=["kind","part"]) Z0 ⟨Np T,QM T,Y6 T,trivial⟩ ⟨T.free 172,T.free 173,T.free 160,T.free 158,trivial⟩ trivial
theorem aiD(hk:3<=k:=by omega):bf P w K mg base (aj w K) k "fits" (.fq 1 Fj):=vQ T 83 83 hk (ps:=["deed"]) aj3 ⟨aal T,afe T,trivial⟩ ⟨T.free 171,T.free 166,T.free 160,trivial⟩ trivial
theorem Wk(hk:10<=k:=by omega):bV P w K mg base (aj w K) k "Commons" "do" (.g 2 cP):=wG T 84 84 hk (ps:=["self","deed"]) Xu ⟨adl T,aiD T,trivial⟩ trivial ⟨⟨Jy T,trivial⟩,⟨La T,trivial⟩,⟨Px T,trivial⟩,⟨Ot T,trivial⟩,⟨Td T,trivial⟩,⟨QL T,trivial⟩,⟨Rh T,trivial⟩,⟨DK T,trivial⟩,⟨Uh T,trivial⟩,⟨QH T,trivial⟩,⟨N8 T,trivial⟩,⟨Nz T,trivial⟩,⟨Oc T,trivial⟩,⟨FZ T,trivial⟩,⟨wA T,trivial⟩,trivial⟩
theorem ai7(hk:11<=k:=by omega):bf P w K mg base (aj w K) k "_law_done" (.fg 3 qF):=vG T 85 85 hk (ps:=["_law_house","_law_deed_here","_law_counts"]) ait ⟨Ww T,trivial⟩ trivial ⟨⟨Wk T,trivial⟩,trivial⟩
theorem ajV(hk:1<=k:=by omega):bf P w K mg base (aj w K) k "_law_near" (.fq 2 Kc):=vQ T 86 86 hk (ps:=["_law_ear_here","_law_figures"]) ajw trivial ⟨T.free 158,T.free 166,T.free 163,T.free 164,trivial⟩ trivial
theorem adL(hk:2<=k:=by omega):bf P w K mg base (aj w K) k "_law_mark_by" (.fq 3 vW):=vQ T 87 87 hk (ps:=["_law_figures","_law_mode","_law_base"]) acR ⟨YG T,ajV T,trivial⟩ trivial trivial
theorem ak2(hk:1<=k:=by omega):bf P w K mg base (aj w K) k "_law_ref" (.fq 3 jH):=vQ T 88 88 hk (ps:=["_law_figure","_law_many","_law_sure"]) als trivial ⟨T.free 163,trivial⟩ trivial
theorem ady(hk:3<=k:=by omega):bf P w K mg base (aj w K) k "_law_deed" (.fq 6 eZ):=vQ T 89 89 hk (ps:=["_law_word","_law_one","_law_two","_law_parts","_law_counts","_law_base"]) aj9 ⟨ak2 T,adL T,trivial⟩ ⟨T.free 173,trivial⟩ trivial
theorem akf(hk:12<=k:=by omega):bf P w K mg base (aj w K) k "_law_play" (.fg 3 Bw):=vG T 90 90 hk (ps:=["_law_house","_law_cells","_law_head"]) aiB ⟨ai7 T,ady T,acP T,abN T,Z5 T,agd T,trivial⟩ ⟨T.free 161,T.free 170,T.free 160,trivial⟩ trivial
theorem aiJ(hk:1<=k:=by omega):bf P w K mg base (aj w K) k "_law_cell" (.fq 2 uV):=vQ T 91 91 hk (ps:=["_law_script","_law_k"]) aiy trivial ⟨T.free 160,trivial⟩ trivial
theorem agR(hk:4<=k:=by omega):bf P w K mg base (aj w K) k "_law_asked" (.fq 4 jE):=vQ T 92 92 hk (ps:=["_law_word","_law_cell_here","_law_counts","_law_head"]) ahU ⟨ady T,agd T,abN T,trivial⟩ trivial trivial
theorem v_cut(hk:1<=k:=by omega):bf P w K mg base (aj w K) k "_law_cut" (.fq 1 LC):=vQ T 93 93 hk (ps:=["_law_cell_here"]) alo trivial trivial trivial
theorem akR(hk:2<=k:=by omega):bf P w K mg base (aj w K) k "_law_raw" (.fq 3 Hl):=vQ T 94 94 hk (ps:=["_law_value","_law_cell_here","_law_turn"]) ak6 ⟨v_cut T,trivial⟩ trivial trivial
theorem abQ(hk:1<=k:=by omega):bf P w K mg base (aj w K) k "_law_herd_bad" (.fq 3 oK):=vQ T 95 95 hk (ps:=["_law_stand","_law_beast","_law_cut_here"]) abv trivial ⟨T.free 160,trivial⟩ trivial
theorem afr(hk:1<=k:=by omega):bf P w K mg base (aj w K) k "_law_befell" (.fq 6 BP):=vQ T 96 96 hk (ps:=["_law_row_here","_law_owner","_law_ground","_law_due_here","_law_ear_here","_law_entry"]) afA trivial trivial trivial
theorem alP(hk:2<=k:=by omega):bf P w K mg base (aj w K) k "_law_due" (.fq 3 wC):=vQ T 97 97 hk (ps:=["_law_stand","_law_beast","_law_place"]) alC ⟨afr T,abQ T,trivial⟩ trivial trivial
theorem aky(hk:5<=k:=by omega):bf P w K mg base (aj w K) k "_law_tell" (.fg 3 BL):=vG T 98 98 hk (ps:=["_law_house","_law_beast","_law_place"]) ah0 ⟨Vj T,acy T,U0 T,VD T,trivial⟩ trivial ⟨⟨DK T,trivial⟩,trivial⟩
theorem ahm(hk:1<=k:=by omega):bf P w K mg base (aj w K) k "_law_whole" (.fq 1 Es):=vQ T 99 99 hk (ps:=["_law_found"]) agB trivial ⟨T.free 172,T.free 174,T.free 173,trivial⟩ trivial
theorem ajK(hk:12<=k:=by omega):bf P w K mg base (aj w K) k "_law_like" (.fq 2 (jx 10)):=by
 obtain⟨fd,F⟩:=T.c.Vi 100
 have b:=FunD.bindsN (ps:=["_law_found","_law_due_here"]) F fun _ _ _ _ _ _ us hl=>match us,hl with|[_,_],_=>rfl
 have key:∀j:Nat,FnOk P w K mg base (L2.CX P w) (2+j) (He.ga K "_law_like") fd ["_law_found","_law_due_here"] (QJ K (aj w K) 2 (jx j)):=by
  intro j
  induction j with
  |zero=>exact aiV
  |succ j ih'=>
   have ih:∀{k:Nat},2+j<=k->bf P w K mg base (aj w K) k "_law_like" (.fq 2 (jx j)):=fun hk=>aft hk (T.glo 100) F.kp (b) ih'
   refine Yc (k:=2+j) (Ds F) ahb ?_ ?_ ?_ (ain (jx j))
   ·exact⟨ih (aq2 _),ahm T,trivial⟩
   ·exact⟨T.free 166,T.free 160,T.free 172,T.free 159,T.free 158,T.free 175,T.free 173,trivial⟩
   ·exact T.hs trivial
 exact aft hk (T.glo 100) F.kp (b) (key 10)
theorem akW{fd:FuncData}(F:FunD K "law" "law" (defArgs Lw) (defBody Lw) (defScope Lw) [] [] (He.ga K "law") fd):FnOk P w K mg base (L2.CX P w) 13 (He.ga K "law") fd ["_law_script"] (Gi K (aj w K) 1 GP):=by
 refine PB (k:=12) (Ds F) ah8 ?_ ?_ ?_ ale
 ·exact⟨ajK T,aky T,alP T,akR T,agR T,aiJ T,akf T,acL T,trivial⟩
 ·exact⟨T.free 161,T.free 162,trivial⟩
 ·exact T.hs ⟨⟨Qq T,trivial⟩,trivial⟩
end
def digs(b:Int):Nat->Int->List Int
 |0,_=>[]
 |n+1,c=>c % b::digs b n (c / b)
def MK(b:Int):Nat->Int->Int->List Int
 |0,_,_=>[]
 |n+1,k,t=>((t * 48271+9973 * k+11) % 2147483647 / 1021 % b)::MK b n (k+1) ((t * 48271+9973 * k+11) % 2147483647)
def Ag(c:Int):Int:=if c < 0 then -c else c
def rowOf(c:Int)(n:Nat)(b:Int):List Int:=if 10 ^ 18<=Ag c then digs b n (Ag c) else MK b n 0 ((Ag c % 1000003+17) * 69621 % 2147483647)
theorem XQ(b:Int):∀n c,(digs b n c).length=n
 |0,_=>rfl
 |n+1,c=>by simp[digs,XQ b n]
theorem aaP(b:Int):∀n k t,(MK b n k t).length=n
 |0,_,_=>rfl
 |n+1,k,t=>by simp[MK,aaP b n]
theorem aaN{b:Int}(hb:0 < b):∀n c,∀x∈digs b n c,0<=x/\x < b
 |0,_,x,h=>by simp[digs]at h
 |n+1,c,x,h=>by
  rcases aqV.mp h with rfl|h
  ·exact⟨Int.emod_nonneg _ (by omega),Int.emod_lt_of_pos _ hb⟩
  ·exact aaN hb n _ x h
theorem acD{b:Int}(hb:0 < b):∀n k t,∀x∈MK b n k t,0<=x/\x < b
 |0,_,_,x,h=>by simp[MK]at h
 |n+1,k,t,x,h=>by
  rcases aqV.mp h with rfl|h
  ·exact⟨Int.emod_nonneg _ (by omega),Int.emod_lt_of_pos _ hb⟩
  ·exact acD hb n _ _ x h
@[simp]theorem aaV (c:Int) (n:Nat) (b:Int):(rowOf c n b).length=n:=by
 unfold rowOf
 split
 ·exact XQ ..
 ·exact aaP ..
theorem adM{b:Int}(hb:0 < b)(c:Int)(n:Nat):∀x∈rowOf c n b,0<=x/\x < b:=by
 unfold rowOf
 split
 ·exact aaN hb _ _
 ·exact acD hb _ _ _
@[simp]theorem aaB (M:Mo) (ns:List Int) (k:Nat):uV M [lI ns,.int k]=.ok (.int (ns.getD k 0)):=by
 unfold uV YQ
 by_cases h:k < ns.length
 ·simp[h,atI,ixN]
 ·simp[h]
theorem YM(M:Mo)(b:Int)(hb:0 < b)(hb2:b < 1073741824):∀(n k:Nat) (c:Int) (x1:Option Cell) (acc:List Dat) (x4 x5:Option Cell),acc.length+n < 100000->∃c' x4',gQ (aF 4) Tw ((List.range' k n).map fun(i:Nat)=>PyData.int (i:Int)) M [some (.dat (.int c)),x1,some (.dat (.int b)),some (.mut acc),x4,x5]=.next [c',x1,some (.dat (.int b)),some (.mut (acc++(digs b n c).map .int)),x4',x5] M
 |0,k,c,x1,acc,x4,x5,_=>⟨some (.dat (.int c)),x4,by simp[gQ,digs]⟩
 |n+1,k,c,x1,acc,x4,x5,hl=>by
  obtain⟨c',x4',ih⟩:=YM M b hb hb2 n (k+1) (c / b) x1 (acc++[.int (c % b)]) (some (.dat (.int k))) x5 (by simp;omega)
  refine⟨c',x4',?_⟩
  have h1:decide (CDiv c b)=true:=decide_eq_true ⟨hb,hb2⟩
  have hl:acc.length < 100000:=by omega
  rw[List.range'_succ,aqI,jG (ρ1:=[some (.dat (.int c)),x1,some (.dat (.int b)),some (.mut acc),some (.dat (.int k)),x5]) (by simp) (ρ2:=[some (.dat (.int (c / b))),x1,some (.dat (.int b)),some (.mut (acc++[.int (c % b)])),some (.dat (.int k)),x5]) (M2:=M) (by simp[Tw,h1,hb,hl])]
  rw[ih]
  simp[digs]
theorem aaw(M:Mo)(b:Int)(hb:0 < b):∀(n k:Nat) (t:Int) (x0 x1:Option Cell) (acc:List Dat) (x4:Option Cell),acc.length+n < 100000->∃x4' x5',gQ (aF 4) SM ((List.range' k n).map fun(i:Nat)=>PyData.int (i:Int)) M [x0,x1,some (.dat (.int b)),some (.mut acc),x4,some (.dat (.int t))]=.next [x0,x1,some (.dat (.int b)),some (.mut (acc++(MK b n k t).map .int)),x4',x5'] M
 |0,k,t,x0,x1,acc,x4,_=>⟨x4,some (.dat (.int t)),by simp[gQ,MK]⟩
 |n+1,k,t,x0,x1,acc,x4,hl=>by
  obtain⟨x4',x5',ih⟩:=aaw M b hb n (k+1) ((t * 48271+9973 * k+11) % 2147483647) x0 x1 (acc++[.int ((t * 48271+9973 * k+11) % 2147483647 / 1021 % b)]) (some (.dat (.int k))) (by simp;omega)
  refine⟨x4',x5',?_⟩
  have h1:decide (CMul t 48271)=true:=mul_r (by decide)
  have h2:decide (CMul 9973 (k:Int))=true:=afS (by decide)
  have h3:∀x,decide (CDiv x 1021)=true:=fun x=>decide_eq_true ⟨by decide,by decide⟩
  have hl:acc.length < 100000:=by omega
  rw[List.range'_succ,aqI,jG (ρ1:=[x0,x1,some (.dat (.int b)),some (.mut acc),some (.dat (.int k)),some (.dat (.int t))]) (by simp) (ρ2:=[x0,x1,some (.dat (.int b)),some (.mut (acc++[.int ((t * 48271+9973 * k+11) % 2147483647 / 1021 % b)])),some (.dat (.int k)),some (.dat (.int ((t * 48271+9973 * k+11) % 2147483647)))]) (M2:=M) (by simp[SM,h1,h2,h3,hb,hl])]
  rw[ih]
  simp[MK]
theorem QK(n:Nat):gH 0 n=(List.range' 0 n).map fun(i:Nat)=>PyData.int (i:Int):=by
 unfold gH
 rw[List.range_eq_range']
 simp
theorem Yu(M:Mo)(c:Int)(n:Nat)(b:Int)(hb:0 < b)(hb2:b < 1073741824)(hn:n<=1000):u9 M [.int c,.int n,.int b]=.ok (lI (rowOf c n b)):=by
 unfold u9 ab2
 have hp:decide (CPow 10 18)=true:=decide_eq_true ⟨by decide,by decide,by decide⟩
 have hn1:(n:Int)<=100000:=by omega
 have hn2 : -100000<=(n:Int):=by omega
 have hm:∀x,decide (CMul x 69621)=true:=fun x=>mul_r (by decide)
 have ea:(if c < 0 then -c else c)=Ag c:=rfl
 by_cases h:10 ^ 18<=Ag c
 ·obtain⟨c',x4',e⟩:=YM M b hb hb2 n 0 (Ag c) (some (.dat (.int n))) [] none none (by simp;omega)
  have e2:rowOf c n b=digs b n (Ag c):=if_pos h
  have h':(1000000000000000000:Int)<=Ag c:=by simpa using h
  simp[hp,ea,h',hn1,hn2,QK,e,e2]
 ·obtain⟨x4',x5',e⟩:=aaw M b hb n 0 ((Ag c % 1000003+17) * 69621 % 2147483647) (some (.dat (.int (Ag c)))) (some (.dat (.int n))) [] none (by simp;omega)
  have e2:rowOf c n b=MK b n 0 ((Ag c % 1000003+17) * 69621 % 2147483647):=if_neg h
  have h':¬(1000000000000000000:Int)<=Ag c:=by simpa using h
  have e':=e
  simp[hp,ea,h',hn1,hn2,hm,QK]at e ⊢
  rw[e]
  simp[e2]
def O4(i j:Int):Int:=if j > i then j else i
def yO(l:List Int)(m:Int):List Int:=if m % 4=1 then l.map fun f=>O4 0 (f - 7) else if m % 4=2 then l.map fun f=>f % 3 else l
theorem U6(M:Mo)(l:List Int)(m:Int)(hl:l.length<=1000):sO M [lI l,.int m]=.ok (aM (yO l m)):=by
 unfold sO O2
 have hl':l.length<=50000:=by omega
 have c1:=gR (tg:=aF 2) (te:=aA u5 (qC (.int 0)) (aA lg (ao 2) (qC (.int 7)))) (M:=M) (ρ:=[some (.dat (lI l)),some (.dat (.int m)),none]) PyData.int (fun f=>.int (O4 0 (f - 7))) l fun x _=>⟨_,rfl,by simp[O4]⟩
 have c2:=gR (tg:=aF 2) (te:=aA jP (ao 2) (qC (.int 3))) (M:=M) (ρ:=[some (.dat (lI l)),some (.dat (.int m)),none]) PyData.int (fun f=>.int (f % 3)) l fun x _=>⟨_,rfl,by simp⟩
 by_cases h1:m % 4=1
 ·simp[h1,hl',c1,yO,aq3]
 ·by_cases h2:m % 4=2
  ·simp[h2,hl',c2,yO,aq3]
  ·simp[h1,h2,yO]
def Iv(c:Int):List Int:=yO ((rowOf c 7 10).take 6) ((rowOf c 7 10).getD 6 0)
theorem N6{α:Type}(l:List α)(n:Nat):Rf.cutD l none (some (n:Int))=l.take n:=by
 unfold Rf.cutD
 rw[HT.sIx_nat]
 simp[HT.sIx]
theorem IV{α:Type}(l:List α)(n:Nat):Rf.cutD l (some (n:Int)) none=l.drop n:=by
 unfold Rf.cutD
 rw[HT.sIx_nat]
 simp[HT.sIx]
 by_cases h:n<=l.length
 ·rw[Nat.min_eq_left h]
  exact List.take_of_length_le (by simp)
 ·rw[Nat.min_eq_right (by omega),List.drop_eq_nil_of_le (by omega),List.drop_eq_nil_of_le (by omega)]
  simp
theorem Zu(l:List Int)(n:Nat)(h:n < l.length):atI (l.map PyData.int) (n:Int)=some (.int (l.getD n 0)):=atI_nat (by simp[h])
theorem ac9(M:Mo)(c:Int):Ik M [.int c]=.ok (aM (Iv c)):=by
 unfold Ik abw
 have h1:u9 M [.int c,.int 7,.int 10]=.ok (.list ((rowOf c 7 10).map .int)):=Yu M c 7 10 (by decide) (by decide) (by decide)
 have h2:Rf.cutD ((rowOf c 7 10).map PyData.int) none (some 6)=((rowOf c 7 10).take 6).map PyData.int:=by
  rw[show(6:Int)=((6:Nat):Int) from rfl,N6,List.map_take]
 have h3:atI ((rowOf c 7 10).map PyData.int) 6=some (.int ((rowOf c 7 10).getD 6 0)):=Zu _ 6 (by simp)
 have h4:sO M [.list (((rowOf c 7 10).take 6).map .int),.int ((rowOf c 7 10).getD 6 0)]=.ok (.tuple ((Iv c).map .int)):=U6 M _ _ (by simp)
 generalize (rowOf c 7 10).getD 6 0=z at h3 h4
 generalize ((rowOf c 7 10).take 6).map PyData.int=y at h2 h4
 simp[h1,h2,h3,h4]
theorem U5(c:Int):(Iv c).length=6:=by
 unfold Iv yO
 split
 ·simp
 ·split <;> simp
theorem afK{l:List Int}{m:Int}(h:∀x∈l,0<=x/\x < 10):∀x∈yO l m,0<=x/\x < 10:=by
 unfold yO O4
 split
 ·intro x hx
  obtain⟨y,hy,rfl⟩:=aqR.mp hx
  have:=h y hy
  split <;> omega
 ·split
  ·intro x hx
   obtain⟨y,hy,rfl⟩:=aqR.mp hx
   have:=h y hy
   omega
  ·exact h
mutual
def lk:Nat->Dat->Bool
 |_,.none=>true
 |_,.bool _=>true
 |_,.int _=>true
 |_,.str _=>true
 |n+1,.list ds=>uU n ds
 |n+1,.tuple ds=>uU n ds
 |0,.list _=>false
 |0,.tuple _=>false
 |_,.dict _=>false
def uU:Nat->List Dat->Bool
 |_,[]=>true
 |n,d::ds=>lk n d&&uU n ds
end
theorem vY{n:Nat}:∀{ds:List Dat},uU n ds=true↔∀d∈ds,lk n d=true
 |[]=>by simp[uU]
 |d::ds=>by simp[uU,vY (ds:=ds)]
@[simp]theorem afo (n:Nat) (l:List Int):uU n (l.map PyData.int)=true:=vY.mpr fun d h=>by
 obtain⟨i,_,rfl⟩:=aqR.mp h
 simp[lk]
theorem Uw(M:Mo)(i:Int):Es M [.int i]=.ok (.bool true):=by
 unfold Es Ug
 simp[yx,Ai]
theorem zip_self(ds:List Dat):wY ds ds=ds.map fun d=>.tuple [d,d]:=by
 unfold wY
 rw[List.zipWith_self]
theorem Kv(M:Mo)(r:Mo->List Dat->Out Dat)(x0 x1:Option Cell):∀(ds:List Dat) (x2 x3:Option Cell),(∀d∈ds,r M [d,d]=.ok (.bool true))->∃x2' x3',gQ (bL [2,3]) (Nu r) (ds.map fun d=>PyData.tuple [d,d]) M [x0,x1,x2,x3]=.next [x0,x1,x2',x3'] M
 |[],x2,x3,_=>⟨x2,x3,rfl⟩
 |d::ds,x2,x3,h=>by
  obtain⟨x2',x3',ih⟩:=Kv M r x0 x1 ds (some (.dat d)) (some (.dat d)) fun d hd=>h d (aqJ _ hd)
  refine⟨x2',x3',?_⟩
  have hd:=h d aqK
  rw[aqI,jG (ρ1:=[x0,x1,some (.dat d),some (.dat d)]) (by simp) (ρ2:=[x0,x1,some (.dat d),some (.dat d)]) (M2:=M) (by simp[Nu,hd])]
  exact ih
theorem Gk(M:Mo):∀(n:Nat) (d:Dat),lk n d=true->jx (n+1) M [d,d]=.ok (.bool true):=by
 intro n
 induction n with
 |zero=>
  intro d h
  show mQ 4 (FP (jx 0)) M [d,d]=_
  unfold FP
  cases d with
  |none=>simp[oO]
  |bool b=>cases b <;> simp[oO]
  |int i=>simp[oO,yx,Ai,Uw]
  |str x=>simp[oO,yx,Ai]
  |list ds=>simp[lk]at h
  |tuple ds=>simp[lk]at h
  |dict kv=>simp[lk]at h
 |succ n ih=>
  intro d h
  show mQ 4 (FP (jx (n+1))) M [d,d]=_
  unfold FP
  cases d with
  |none=>simp[oO]
  |bool b=>cases b <;> simp[oO]
  |int i=>simp[oO,yx,Ai,Uw]
  |str x=>simp[oO,yx,Ai]
  |list ds=>
   rw[lk,vY]at h
   obtain⟨x2',x3',e⟩:=Kv M (jx (n+1)) (some (.dat (.list ds))) (some (.dat (.list ds))) ds none none fun d hd=>ih d (h d hd)
   simp[oO,yx,Ai,zip_self,e]
  |tuple ds=>
   rw[lk,vY]at h
   obtain⟨x2',x3',e⟩:=Kv M (jx (n+1)) (some (.dat (.tuple ds))) (some (.dat (.tuple ds))) ds none none fun d hd=>ih d (h d hd)
   simp[oO,yx,Ai,zip_self,e]
  |dict kv=>simp[lk]at h
inductive En where
 |torn (p:Nat)|cut (e:List Int)|sold (o:Int) (e:List Int)|moved (g:Int)|followed (o g:Int)|passed (o:Int)|died
def En.dat:En->Dat
 |.torn p=>.tuple [.str "torn",.int p]
 |.cut e=>.tuple [.str "cut",aM e]
 |.sold o e=>.tuple [.str "sold",.int o,aM e]
 |.moved g=>.tuple [.str "moved",.int g]
 |.followed o g=>.tuple [.str "followed",.int o,.int g]
 |.passed o=>.tuple [.str "passed",.int o]
 |.died=>.tuple [.str "died"]
inductive Fi where
 |brought (o g:Int) (e:List Int)|born (m o g:Int)
def Fi.dat:Fi->Dat
 |.brought o g e=>.tuple [.str "brought",.int o,.int g,aM e]
 |.born m o g=>.tuple [.str "born",.int m,.int o,.int g]
structure Sd where
 o:Int
 g:Int
 due:Option (List Int)
 ear:List Int
 al:Bool
def mX:Option (List Int)->Dat
 |none=>.none
 |some e=>aM e
def Sd.dat(s:Sd):Dat:=.tuple [.int s.o,.int s.g,mX s.due,aM s.ear,.bool s.al]
def nO(l:List Int)(p:Nat):List Int:=l.mapIdx fun i x=>if i=p then x+1 else x
def go(s:Sd):En->Sd
 |.torn p=>{ s with ear:=nO s.ear p }
 |.cut e=>{ s with due:=some e,ear:=e }
 |.sold o e=>{ s with o:=o,due:=some e,ear:=e }
 |.moved g=>{ s with g:=g }
 |.followed o g=>{ s with o:=o,g:=g }
 |.passed o=>{ s with o:=o }
 |.died=>{ s with al:=false }
def beg:Fi->Sd
 |.brought o g e=>⟨o,g,none,e,true⟩
 |.born _ o g=>⟨o,g,none,[0,0,0,0,0,0],true⟩
theorem afm(M:Mo)(f:Fi):Bq M [f.dat]=.ok (beg f).dat:=by
 cases f <;> simp[Bq,Lz,Fi.dat,beg,Sd.dat,mX,jr]
theorem aaq(M:Mo)(l:List Int)(p:Nat)(hl:l.length<=1000):wO M [aM l,.int p]=.ok (aM (nO l p)):=by
 unfold wO Hf
 have c:rN 0 (l.map PyData.int)=(l.mapIdx fun i x=>(i,x)).map fun(q:Nat×Int)=>PyData.tuple [.int q.1,.int q.2]:=by
  unfold rN
  rw[List.mapIdx_eq_mapIdx_iff.mpr (fun i h=>rfl)]
  apply aq5
  intro i
  simp
  cases l[i]? <;> simp
 have c2:=gR (tg:=bL [2,3]) (te:=Qu (bx (aA bZ (ao 2) (ao 1))) (aA dY (ao 3) (qC (.int 1))) (aq 3)) (M:=M) (ρ:=[some (.dat (aM l)),some (.dat (.int p)),none,none]) (fun(q:Nat×Int)=>PyData.tuple [.int q.1,.int q.2]) (fun q=>.int (if q.1=p then q.2+1 else q.2)) (l.mapIdx fun i x=>(i,x)) fun x _=>⟨[some (.dat (aM l)),some (.dat (.int p)),some (.dat (.int x.1)),some (.dat (.int x.2))],by simp,by
  by_cases h:x.1=p
  ·simp[h]
  ·have h':¬((x.1:Int)=p):=by omega
   simp[h,h']⟩
 have hl':l.length<=50000:=by omega
 simp[c,c2,hl',nO]
 apply aq5
 intro i
 simp
 cases l[i]? <;> simp
theorem abG(l:List Int)(p:Nat):(nO l p).length=l.length:=by simp[nO]
theorem gone_ok(M:Mo)(s:Sd)(e:En)(hl:s.ear.length<=1000):yZ M [s.dat,e.dat]=.ok (go s e).dat:=by
 have h:=fun p=>aaq M s.ear p hl
 cases e <;> simp[yZ,JF,En.dat,go,Sd.dat,mX,h]
abbrev Row3:=Int×Int×List Int
def gM(r:Row3):Dat:=.tuple [.int r.1,.int r.2.1,aM r.2.2]
structure dH where
 fi:Fi
 en:List En
 mo:Int
 sd:Sd
structure aK where
 count:Int
 own:List Int
 al:List Int
 ci:List (List Int)
 held:List Row3
 bs:List dH
structure Lay where
 c:Nat
 g:Nat
 r:Nat
 h:Nat
 bs:List Nat
 fr:List (Nat×Inst)
def aN(L:Lay)(c:aK):Inst:=⟨"Commons",[("owner_count",.dat (.int c.count)),("holders",.dic false (c.own.map fun o=>(.int o,.bool true))),("grounds",.dat (ob L.g)),("rights",.dat (ob L.r)),("herd",.dat (ob L.h))]⟩
def cY(n m:Nat)(c:aK):Inst:=⟨"Grounds",[("allowances",.lst n (c.al.map PyData.int)),("circles",.lst m (c.ci.map aM))]⟩
def mW(c:aK):Inst:=⟨"Rights",[("held",.dic true (c.held.map fun r=>(gM r,.bool true)))]⟩
def dB(n:Nat)(L:Lay):Inst:=⟨"Herd",[("beasts",.lst n (L.bs.map ob))]⟩
def iB(n:Nat)(b:dH):Inst:=⟨"Beast",[("story",.lst n (b.fi.dat::b.en.map En.dat)),("mother",.dat (.int b.mo)),("owner",.dat (.int b.sd.o)),("ground",.dat (.int b.sd.g)),("due",.dat (mX b.sd.due)),("ear",.dat (aM b.sd.ear)),("alive",.dat (.bool b.sd.al))]⟩
structure At(M:Mo)(L:Lay)(c:aK):Prop where
 hc:M[L.c]?=some (aN L c)
 hg:∃n m,M[L.g]?=some (cY n m c)
 hr:M[L.r]?=some (mW c)
 hh:∃n,M[L.h]?=some (dB n L)
 len:L.bs.length=c.bs.length
 hb:∀(i h:Nat) (b:dH),L.bs[i]?=some h->c.bs[i]?=some b->∃n,M[h]?=some (iB n b)
 nd:(L.c::L.g::L.r::L.h::L.bs).Nodup
 fr:∀p∈L.fr,M[p.1]?=some p.2/\p.1∉L.c::L.g::L.r::L.h::L.bs
section
variable{M:Mo}{L:Lay}{c:aK}(a:At M L c)
include a
theorem abj:o7 M [ob L.g]=.ok (.int c.al.length):=by
 obtain⟨n,m,hg⟩:=a.hg
 simp[o7,tV,hg,cY]
theorem ai6(g:Int):vh M [ob L.g,.int g]=.ok (.bool (decide (1<=g/\g<=c.al.length))):=by
 obtain⟨n,m,hg⟩:=a.hg
 have:=abj a
 by_cases h:1<=g <;> simp[vh,Ak,hg,cY,this,eG,h]
end
@[simp]theorem amJ {α:Type} (l:List α) (n:Nat):atI l (n:Int)=l[n]?:=by
 cases h:l[n]? with
 |some a=>exact atI_nat h
 |none=>
  have hl:=List.getElem?_eq_none_iff.mp h
  unfold atI ixN
  rw[if_pos (by omega),if_neg (by omega)]
  rfl
abbrev Vg(c:aK)(x:Int):Prop:=1<=x/\x<=c.al.length
theorem Ck{c:aK}{x:Int}(h:Vg c x):∃k:Nat,k < c.al.length/\x=(k:Int)+1:=⟨(x - 1).toNat,by omega,by omega⟩
structure cZ(c:aK):Prop where
 len:c.ci.length=c.al.length
 few:c.al.length<=200
 al:∀x∈c.al,0<=x/\x<=9
 mem:∀(k:Nat) (l:List Int),c.ci[k]?=some l->∀y∈l,Vg c y
 own:∀(k:Nat) (l:List Int),c.ci[k]?=some l->(k:Int)+1∈l
 up:∀(k:Nat) (l:List Int),c.ci[k]?=some l->l.Pairwise (· < ·)
 one:∀(k j:Nat) (l:List Int),c.ci[k]?=some l->(j:Int)+1∈l->c.ci[j]?=some l
def bD(c:aK)(x:Int):List Int:=(c.ci[(x - 1).toNat]?).getD []
def TF(c:aK)(x:Int):Int:=(c.al[(x - 1).toNat]?).getD 0
def ajF:List Int->Int
 |[]=>0
 |n::ns=>Ef n ns
def roomOf(c:aK)(x:Int):Int:=ajF ((bD c x).map (TF c))
theorem ac1:∀{l:List Int} {lo hi:Int},l.Pairwise (· < ·)->(∀y∈l,lo<=y/\y<=hi)->(l.length:Int)<=max 0 (hi - lo+1)
 |[],_,_,_,_=>by simp;omega
 |x::l,lo,hi,h,hb=>by
  rw[List.pairwise_cons]at h
  have:=ac1 (lo:=x+1) (hi:=hi) h.2 fun y hy=>⟨by have:=h.1 y hy;omega,(hb y (aqJ _ hy)).2⟩
  have:=hb x aqK
  simp
  omega
theorem maxD_ints{l:List Int}(h:l≠[]):maxD (.list (l.map PyData.int))=.ok (.int (ajF l)):=by
 cases l with
 |nil=>exact absurd rfl h
 |cons n ns=>
  show(match intsOf ((n::ns).map PyData.int) with
   |some (n::ns)=>Out.ok (PyData.int (Ef n ns))
   |_=>Out.bad)=_
  rw[Bg]
  rfl
theorem cZ.clen{c:aK}(i:cZ c){k:Nat}{l:List Int}(h:c.ci[k]?=some l):l.length<=200:=by
 have:=ac1 (lo:=1) (hi:=c.al.length) (i.up k l h) fun y hy=>i.mem k l h y hy
 have:=i.few
 omega
section
variable{M:Mo}{L:Lay}{c:aK}(a:At M L c)
include a
theorem vR(x:Int):ux M [ob L.g,.int x]=if Vg c x then .ok .none else .exc ⟨"NoGround",[]⟩:=by
 obtain⟨n,m,hg⟩:=a.hg
 have:=ai6 a x
 by_cases h:Vg c x <;> simp[ux,yw,hg,cY,this,yI,h]
theorem JD(x:Int):jK M [ob L.g,.int x]=if Vg c x then .ok (.int (TF c x)) else .exc ⟨"NoGround",[]⟩:=by
 obtain⟨n,m,hg⟩:=a.hg
 have hn:=vR a x
 by_cases h:Vg c x
 ·obtain⟨k,hk,rfl⟩:=Ck h
  rw[if_pos h]at hn ⊢
  simp[jK,mK,hg,cY,hn,aG,TF,hk]
 ·rw[if_neg h]at hn ⊢
  simp[jK,mK,hg,cY,hn,aG]
theorem uX(i:cZ c)(x:Int):j6 M [ob L.g,.int x]=if Vg c x then .ok (lI (bD c x)) else .exc ⟨"NoGround",[]⟩:=by
 obtain⟨n,m,hg⟩:=a.hg
 have hn:=vR a x
 by_cases h:Vg c x
 ·obtain⟨k,hk,rfl⟩:=Ck h
  have hk':k < c.ci.length:=by rw[i.len];exact hk
  rw[if_pos h]at hn ⊢
  simp[j6,nR,hg,cY,hn,aG,bD,hk']
 ·rw[if_neg h]at hn ⊢
  simp[j6,nR,hg,cY,hn,aG]
theorem agW(i:cZ c)(x:Int):pO M [ob L.g,.int x]=if Vg c x then .ok (.int (roomOf c x)) else .exc ⟨"NoGround",[]⟩:=by
 obtain⟨n,m,hg⟩:=a.hg
 have hn:=uX a i x
 by_cases h:Vg c x
 ·rw[if_pos h]at hn ⊢
  obtain⟨k,hk,rfl⟩:=Ck h
  have hk':k < c.ci.length:=by rw[i.len];exact hk
  have hc:c.ci[k]?=some (bD c ((k:Int)+1)):=by simp[bD,hk']
  unfold roomOf
  generalize bD c ((k:Int)+1)=l at hc hn ⊢
  have hl:l.length<=50000:=by have:=i.clen hc;omega
  have hne:l.map (TF c)≠[]:=fun z=>by
   have:=i.own k l hc
   rw[List.map_eq_nil_iff.mp z]at this
   cases this
  have key:=gR (tg:=aF 2) (te:=aP dO (ao 0) (ak (aq 2) au)) (M:=M) (ρ:=[some (.dat (ob L.g)),some (.dat (.int ((k:Int)+1))),none]) PyData.int (fun y=>.int (TF c y)) l fun y hy=>⟨[some (.dat (ob L.g)),some (.dat (.int ((k:Int)+1))),some (.dat (.int y))],by simp,by
   have:=JD a y
   rw[if_pos (i.mem k l hc y hy)]at this
   simp[hg,cY,dO,this]⟩
  simp[pO,uo,hg,cY,hn,bB,key,hl]
  have:=maxD_ints hne
  rw[arf]at this
  simp[aq3]at this ⊢
  simp[this]
 ·rw[if_neg h]at hn ⊢
  simp[pO,uo,hg,cY,hn,bB]
end
theorem bF{M:Mo}{h k:Nat}{i j:Inst}(hm:M[h]?=some j):(M.set h i)[k]?=if h=k then some i else M[k]?:=by
 have hl:h < M.length:=(aqG.mp hm).1
 rw[arC]
 by_cases e:h=k
 ·subst e
  rw[if_pos rfl,if_pos hl,if_pos rfl]
 ·rw[if_neg e,if_neg e]
theorem At.neq{M:Mo}{L:Lay}{c:aK}(a:At M L c):L.c≠L.g/\L.c≠L.r/\L.c≠L.h/\L.g≠L.r/\L.g≠L.h/\L.r≠L.h/\(∀x∈L.bs,L.c≠x/\L.g≠x/\L.r≠x/\L.h≠x)/\L.bs.Nodup:=by
 have nd:=a.nd
 simp only[arB,aqV,not_or]at nd
 obtain⟨⟨n1,n2,n3,n4⟩,⟨n5,n6,n7⟩,⟨n8,n9⟩,n10,n11⟩:=nd
 exact⟨n1,n2,n3,n5,n6,n8,fun x hx=>⟨fun z=>n4 (z ▸ hx),fun z=>n7 (z ▸ hx),fun z=>n9 (z ▸ hx),fun z=>n10 (z ▸ hx)⟩,n11⟩
theorem At.frS{M:Mo}{L:Lay}{c:aK}(a:At M L c){h:Nat}{i j:Inst}(hm:M[h]?=some j)(hh:h∈L.c::L.g::L.r::L.h::L.bs):∀p∈L.fr,(M.set h i)[p.1]?=some p.2/\p.1∉L.c::L.g::L.r::L.h::L.bs:=fun p hp=>by
 obtain⟨h1,h2⟩:=a.fr p hp
 refine⟨?_,h2⟩
 rw[bF hm,if_neg (fun(z:h=p.1)=>h2 (z ▸ hh))]
 exact h1
theorem At.setG{M:Mo}{L:Lay}{c:aK}(a:At M L c){al:List Int}{ci:List (List Int)}{n m:Nat}:At (M.set L.g (cY n m { c with al:=al,ci:=ci })) L { c with al:=al,ci:=ci }:=by
 obtain⟨n',m',hg⟩:=a.hg
 obtain⟨e1,e2,e3,e4,e5,e6,e7,e8⟩:=a.neq
 have e1':=Ne.symm e1
 refine⟨?_,⟨n,m,?_⟩,?_,?_,a.len,fun i h b h1 h2=>?_,a.nd,a.frS hg (by simp)⟩
 ·rw[bF hg,if_neg e1']
  exact a.hc
 ·rw[bF hg,if_pos rfl]
 ·rw[bF hg,if_neg e4]
  exact a.hr
 ·rw[bF hg,if_neg e5]
  exact a.hh
 ·rw[bF hg,if_neg (e7 h (aqM h1)).2.1]
  exact a.hb i h b h1 h2
theorem At.afJ{M:Mo}{L:Lay}{c:aK}(a:At M L c){held:List Row3}:At (M.set L.r (mW { c with held:=held })) L { c with held:=held }:=by
 obtain⟨e1,e2,e3,e4,e5,e6,e7,e8⟩:=a.neq
 have e2':=Ne.symm e2
 have e4':=Ne.symm e4
 have hr:=a.hr
 refine⟨?_,?_,?_,?_,a.len,fun i h b h1 h2=>?_,a.nd,a.frS hr (by simp)⟩
 ·rw[bF hr,if_neg e2']
  exact a.hc
 ·rw[bF hr,if_neg e4']
  exact a.hg
 ·rw[bF hr,if_pos rfl]
 ·rw[bF hr,if_neg e6]
  exact a.hh
 ·rw[bF hr,if_neg (e7 h (aqM h1)).2.2.1]
  exact a.hb i h b h1 h2
theorem At.setC{M:Mo}{L:Lay}{c:aK}(a:At M L c){n:Int}{own:List Int}:At (M.set L.c (aN L { c with count:=n,own:=own })) L { c with count:=n,own:=own }:=by
 obtain⟨e1,e2,e3,e4,e5,e6,e7,e8⟩:=a.neq
 have hc:=a.hc
 refine⟨?_,?_,?_,?_,a.len,fun i h b h1 h2=>?_,a.nd,a.frS hc (by simp)⟩
 ·rw[bF hc,if_pos rfl]
 ·rw[bF hc,if_neg e1]
  exact a.hg
 ·rw[bF hc,if_neg e2]
  exact a.hr
 ·rw[bF hc,if_neg e3]
  exact a.hh
 ·rw[bF hc,if_neg (e7 h (aqM h1)).1]
  exact a.hb i h b h1 h2
theorem At.setB{M:Mo}{L:Lay}{c:aK}(a:At M L c){k h n:Nat}{b':dH}(hk:L.bs[k]?=some h):At (M.set h (iB n b')) L { c with bs:=c.bs.set k b' }:=by
 obtain⟨e1,e2,e3,e4,e5,e6,e7,e8⟩:=a.neq
 have hl:k < c.bs.length:=by rw[←a.len];exact(aqG.mp hk).1
 obtain⟨n0,hb⟩:=a.hb k h _ hk (aqH hl)
 obtain⟨q1,q2,q3,q4⟩:=e7 h (aqM hk)
 refine⟨?_,?_,?_,?_,by simp[a.len],fun i h2 b h3 h4=>?_,a.nd,a.frS hb (by simp[aqM hk])⟩
 ·rw[bF hb,if_neg (Ne.symm q1)]
  exact a.hc
 ·rw[bF hb,if_neg (Ne.symm q2)]
  exact a.hg
 ·rw[bF hb,if_neg (Ne.symm q3)]
  exact a.hr
 ·rw[bF hb,if_neg (Ne.symm q4)]
  exact a.hh
 ·by_cases e:i=k
  ·subst e
   rw[hk]at h3
   cases h3
   have h4:(c.bs.set i b')[i]?=some b:=h4
   rw[aqX hl]at h4
   cases h4
   exact⟨n,by rw[bF hb,if_pos rfl]⟩
  ·have h4:(c.bs.set k b')[i]?=some b:=h4
   rw[aqN (Ne.symm e)]at h4
   have ne:h≠h2:=fun z=>by
    subst z
    exact e ((List.getElem?_inj (aqG.mp h3).1 e8).mp (h3.trans hk.symm))
   rw[bF hb,if_neg ne]
   exact a.hb i h2 b h3 h4
theorem At.amM{M:Mo}{L:Lay}{c:aK}(a:At M L c){M2:Mo}{h n n2:Nat}{b:dH}(hh:M.length<=h)(hM:∀k,k < M.length->M2[k]?=M[k]?)(hb:M2[h]?=some (iB n b)):At (M2.set L.h (dB n2 { L with bs:=L.bs++[h] })) { L with bs:=L.bs++[h] } { c with bs:=c.bs++[b] }:=by
 obtain⟨e1,e2,e3,e4,e5,e6,e7,e8⟩:=a.neq
 have lt:∀{k:Nat} {i:Inst},M[k]?=some i->k < M.length:=fun z=>(aqG.mp z).1
 obtain⟨n0,m0,hg⟩:=a.hg
 obtain⟨n1,hh1⟩:=a.hh
 have l1:=lt a.hc
 have l2:=lt hg
 have l3:=lt a.hr
 have l4:=lt hh1
 have lb:∀x∈L.bs,x < M.length:=fun x hx=>by
  obtain⟨i,hi,e⟩:=List.mem_iff_getElem.mp hx
  obtain⟨n',z⟩:=a.hb i x _ (by rw[aqH hi,e]) (aqH (by rw[←a.len];exact hi))
  exact lt z
 have g4:M2[L.h]?=some (dB n1 L):=by rw[hM _ l4];exact hh1
 refine⟨?_,⟨n0,m0,?_⟩,?_,⟨n2,?_⟩,by simp[a.len],fun i h2 b2 h3 h4=>?_,?_,fun p hp=>?_⟩
 ·show(M2.set L.h _)[L.c]?=_
  rw[bF g4,if_neg (Ne.symm e3),hM _ l1]
  exact a.hc
 ·show(M2.set L.h _)[L.g]?=_
  rw[bF g4,if_neg (Ne.symm e5),hM _ l2]
  exact hg
 ·show(M2.set L.h _)[L.r]?=_
  rw[bF g4,if_neg (Ne.symm e6),hM _ l3]
  exact a.hr
 ·show(M2.set L.h _)[L.h]?=_
  rw[bF g4,if_pos rfl]
 ·have h3:(L.bs++[h])[i]?=some h2:=h3
  have h4:(c.bs++[b])[i]?=some b2:=h4
  by_cases hi:i < L.bs.length
  ·rw[aqP hi]at h3
   rw[aqP (by rw[←a.len];exact hi)]at h4
   have m:=aqM h3
   rw[bF g4,if_neg (e7 h2 m).2.2.2,hM _ (lb h2 m)]
   exact a.hb i h2 b2 h3 h4
  ·rw[aqT (by omega)]at h3
   rw[aqT (by rw[←a.len];omega),←a.len]at h4
   have e0:i - L.bs.length=0:=by
    have:=(aqG.mp h3).1
    simp at this
    omega
   rw[e0]at h3 h4
   cases h3
   cases h4
   exact⟨n,by rw[bF g4,if_neg (by omega)];exact hb⟩
 ·have nd:=a.nd
  show(L.c::L.g::L.r::L.h::(L.bs++[h])).Nodup
  have:(L.c::L.g::L.r::L.h::(L.bs++[h]))=(L.c::L.g::L.r::L.h::L.bs)++[h]:=by simp
  rw[this,arq]
  refine⟨nd,by simp,fun x hx y hy=>?_⟩
  rw[aqL.mp hy]
  rcases aqV.mp hx with rfl|hx
  ·omega
  rcases aqV.mp hx with rfl|hx
  ·omega
  rcases aqV.mp hx with rfl|hx
  ·omega
  rcases aqV.mp hx with rfl|hx
  ·omega
  have:=lb x hx
  omega
 ·obtain⟨h1,h2⟩:=a.fr p hp
  have hl:=lt h1
  refine⟨?_,?_⟩
  ·show(M2.set L.h _)[p.1]?=_
   rw[bF g4,if_neg (fun(z:L.h=p.1)=>h2 (by simp[←z])),hM _ hl]
   exact h1
  ·show p.1∉L.c::L.g::L.r::L.h::(L.bs++[h])
   intro z
   have:p.1∈(L.c::L.g::L.r::L.h::L.bs)++[h]:=by simpa using z
   rcases aqU.mp this with z|z
   ·exact h2 z
   ·rw[aqL]at z
    omega
section
variable{M:Mo}{L:Lay}{c:aK}(a:At M L c)
include a
theorem Wy(i:cZ c)(hf:c.al.length < 200)(x:Int):if 0<=x/\x<=9 then ∃M',eU M [ob L.g,.int x]=.ok (.int (c.al.length+1)) M'/\At M' L { c with al:=c.al++[x],ci:=c.ci++[[(c.al.length:Int)+1]] } else eU M [ob L.g,.int x]=.exc ⟨"BadAllowance",[]⟩ M:=by
 obtain⟨n,m,hg⟩:=a.hg
 have hl:∀i,(M.set L.g i)[L.g]?=some i:=fun i=>by rw[bF hg,if_pos rfl]
 by_cases h:0<=x/\x<=9
 ·rw[if_pos h]
  refine⟨_,?_,a.setG (n:=n) (m:=m)⟩
  have h2:c.ci.length < 100000:=by rw[i.len];omega
  have h3:c.al.length < 100000:=by omega
  simp[eU,jm,o7,tV,eG,hg,cY,hl,h,gj,h2,h3]
  rfl
 ·rw[if_neg h]
  have:decide (0<=x)=true->decide (x<=9)=false:=by simp;omega
  by_cases h0:0<=x
  ·have h9:¬x<=9:=by omega
   simp[eU,jm,gj,h0,h9]
  ·simp[eU,jm,gj,h0]
end
def encl(ci:List (List Int))(l:List Int):List (List Int):=l.foldl (fun s y=>s.set (y - 1).toNat l) ci
theorem yG(l:List Int):∀(k:List Int) (ci:List (List Int)),(k.foldl (fun s y=>s.set (y - 1).toNat l) ci).length=ci.length
 |[],_=>rfl
 |y::k,ci=>by rw[arO,yG l k];simp
@[simp]theorem amQ (n k:Nat):ixN n (k:Int)=if k < n then some k else none:=by
 unfold ixN
 rw[if_pos (by omega)]
 by_cases h:k < n
 ·rw[if_pos (by omega),if_pos h]
  simp
 ·rw[if_neg (by omega),if_neg h]
section
variable{M:Mo}{L:Lay}{c:aK}{n m:Nat}(hg:M[L.g]?=some (cY n m c))
include hg
theorem U4(l:List Int):∀(k:List Int) (s:List (List Int)) (o:Option Cell),(∀y∈k,1<=y/\y<=s.length)->
  ∃o',gQ (aF 3) rG (k.map PyData.int) (M.set L.g (cY n m { c with ci:=s })) [some (.dat (ob L.g)),some (.dat (lI l)),some (.dat (aM l)),o]=.next [some (.dat (ob L.g)),some (.dat (lI l)),some (.dat (aM l)),o'] (M.set L.g (cY n m { c with ci:=k.foldl (fun s y=>s.set (y - 1).toNat l) s }))
 |[],s,o,_=>⟨o,rfl⟩
 |y::k,s,o,h=>by
  have hl:∀i,(M.set L.g i)[L.g]?=some i:=fun i=>by rw[bF hg,if_pos rfl]
  obtain⟨j,hj,rfl⟩:∃j:Nat,j < s.length/\y=(j:Int)+1:=⟨(y - 1).toNat,by have:=h y aqK;omega,by have:=h y aqK;omega⟩
  obtain⟨o',ih⟩:=U4 l k (s.set j l) (some (.dat (.int ((j:Int)+1)))) fun z hz=>by
   have:=h z (aqJ _ hz)
   simpa using this
  refine⟨o',?_⟩
  rw[aqI,jG (ρ1:=[some (.dat (ob L.g)),some (.dat (lI l)),some (.dat (aM l)),some (.dat (.int ((j:Int)+1)))]) (M2:=M.set L.g (cY n m { c with ci:=s.set j l })) (ρ2:=[some (.dat (ob L.g)),some (.dat (lI l)),some (.dat (aM l)),some (.dat (.int ((j:Int)+1)))]) (by simp) (by simp[rG,hl,cY,hj,List.map_set]),ih]
  simp
end
theorem Yy{M:Mo}{h:Nat}{i:Inst}(e:M[h]?=some i):M.set h i=M:=by
 apply aq5
 intro k
 rw[bF e]
 split
 ·next z=>rw[←z,e]
 ·rfl
section
variable{M:Mo}{L:Lay}{c:aK}(a:At M L c)
include a
theorem HY(l:List Int)(h:∀y∈l,1<=y/\y<=c.ci.length):∃M',lC M [ob L.g,lI l]=.ok (lI l) M'/\At M' L { c with ci:=encl c.ci l }:=by
 obtain⟨n,m,hg⟩:=a.hg
 obtain⟨o',key⟩:=U4 hg l l c.ci none h
 have e:(cY n m { c with ci:=c.ci })=cY n m c:=rfl
 rw[e,Yy hg]at key
 refine⟨_,?_,a.setG (n:=n) (m:=m) (al:=c.al)⟩
 simp[lC,uH,key,encl]
end
theorem any_ints(y:Int)(l:List Int):((l.map PyData.int).any fun d=>PyData.eqv d (.int y))=decide (y∈l):=by
 induction l with
 |nil=>simp
 |cons x l ih=>
  rw[aqI,arD,ih,Xg]
  by_cases h:x=y
  ·simp[h]
  ·have:¬y=x:=fun z=>h z.symm
   simp[h,this]
theorem FT(neg:Bool)(y:Int)(l:List Int):inD neg (.int y) (lI l)=.ok (.bool (neg ^^ decide (y∈l))):=by
 show(Out.when (okd 12 (.int y)&&mY 12 (l.map PyData.int)) (.ok ((l.map PyData.int).any fun z=>PyData.eqv z (.int y)))).bind _=_
 rw[any_ints,ahW,V2]
 rfl
section
variable{M:Mo}{L:Lay}{c:aK}(a:At M L c)
include a
theorem abt(i:cZ c)(x y:Int)(hx:Vg c x)(hy:Vg c y):if y∈bD c x then kZ M [ob L.g,.int x,.int y]=.exc ⟨"Together",[]⟩ M else
  ∃M',kZ M [ob L.g,.int x,.int y]=.ok (lI (sortI (bD c x++bD c y))) M'/\At M' L { c with ci:=encl c.ci (sortI (bD c x++bD c y)) }:=by
 have t1:=uX a i x
 have t2:=uX a i y
 rw[if_pos hx]at t1
 rw[if_pos hy]at t2
 obtain⟨n,m,hg⟩:=a.hg
 have hcx:c.ci[(x - 1).toNat]?=some (bD c x):=by
  obtain⟨k,hk,rfl⟩:=Ck hx
  have hk':k < c.ci.length:=by rw[i.len];exact hk
  simp[bD,hk']
 have hcy:c.ci[(y - 1).toNat]?=some (bD c y):=by
  obtain⟨k,hk,rfl⟩:=Ck hy
  have hk':k < c.ci.length:=by rw[i.len];exact hk
  simp[bD,hk']
 by_cases h:y∈bD c x
 ·rw[if_pos h]
  simp[kZ,rK,hg,cY,bB,t1,t2,FT,h]
 ·rw[if_neg h]
  have hm:∀z∈sortI (bD c x++bD c y),1<=z/\z<=c.ci.length:=fun z hz=>by
   unfold sortI at hz
   rw[List.mem_mergeSort,aqU]at hz
   rw[i.len]
   rcases hz with hz|hz
   ·exact i.mem _ _ hcx z hz
   ·exact i.mem _ _ hcy z hz
  obtain⟨M',h1,h2⟩:=HY a _ hm
  refine⟨M',?_,h2⟩
  have l1:=i.clen hcx
  have l2:=i.clen hcy
  have hs:Iu (lI (bD c x++bD c y))=.ok (lI (sortI (bD c x++bD c y))):=by
   show(match intsOf ((bD c x++bD c y).map PyData.int) with
    |some l=>Out.ok (PyData.list ((sortI l).map PyData.int))
    |none=>_)=_
   rw[Bg]
  have hz:(bD c x).length+(bD c y).length<=100000:=by omega
  have hs:Iu (.list ((bD c x).map PyData.int++(bD c y).map PyData.int))=.ok (lI (sortI (bD c x++bD c y))):=by rw[←ara];exact hs
  simp[kZ,rK,hg,cY,bB,fZ,t1,t2,FT,h,hz,hs,h1]
theorem ada(i:cZ c)(x:Int):if Vg c x then(if (bD c x).filter (fun y=>!(y==x))=[] then iT M [ob L.g,.int x]=.exc ⟨"Alone",[]⟩ M else
  ∃M',iT M [ob L.g,.int x]=.ok (lI ((bD c x).filter (fun y=>!(y==x)))) M'/\At M' L { c with ci:=encl (encl c.ci [x]) ((bD c x).filter (fun y=>!(y==x))) }) else iT M [ob L.g,.int x]=.exc ⟨"NoGround",[]⟩ M:=by
 have t1:=uX a i x
 obtain⟨n,m,hg⟩:=a.hg
 by_cases hx:Vg c x
 ·rw[if_pos hx]at t1 ⊢
  have hcx:c.ci[(x - 1).toNat]?=some (bD c x):=by
   obtain⟨k,hk,rfl⟩:=Ck hx
   have hk':k < c.ci.length:=by rw[i.len];exact hk
   simp[bD,hk']
  have hl:(bD c x).length<=50000:=by have:=i.clen hcx;omega
  have key:=gU (tg:=aF 3) (tt:=bx (aA Cm (ao 3) (ao 1))) (te:=aq 3) (M:=M) (ρ:=[some (.dat (ob L.g)),some (.dat (.int x)),none,none]) PyData.int (fun y=>!(y==x)) PyData.int (bD c x) fun y _=>⟨[some (.dat (ob L.g)),some (.dat (.int x)),none,some (.dat (.int y))],by simp,by simp,fun _=>by simp⟩
  by_cases he:(bD c x).filter (fun y=>!(y==x))=[]
  ·rw[if_pos he]
   rw[he]at key
   simp only[arK]at key
   simp[iT,oW,hg,cY,bB,t1,key,hl]
  ·rw[if_neg he]
   generalize hL:(bD c x).filter (fun y=>!(y==x))=left at he key
   have hm:∀z∈left,1<=z/\z<=(encl c.ci [x]).length:=fun z hz=>by
    rw[←hL,aq1]at hz
    unfold encl
    rw[yG,i.len]
    exact i.mem _ _ hcx z hz.1
   obtain⟨M1,h1,a1⟩:=HY a [x] (fun z hz=>by rw[aqL.mp hz,i.len];exact hx)
   obtain⟨M2,h2,a2⟩:=HY a1 left hm
   refine⟨M2,?_,a2⟩
   obtain⟨n1,m1,hg1⟩:=a1.hg
   have h1:lC M [ob L.g,.list [.int x]]=.ok (.list [.int x]) M1:=h1
   have he':left.isEmpty=false:=by cases left with
    |nil=>exact absurd rfl he
    |cons _ _=>rfl
   simp[iT,oW,hg,hg1,cY,bB,fZ,t1,key,hl,h1,h2,he']
 ·rw[if_neg hx]at t1 ⊢
  simp[iT,oW,hg,cY,bB,t1]
end
theorem agl(o g:Int)(m:List Int)(o' g':Int)(m':List Int):PyData.eqv (gM (o,g,m)) (gM (o',g',m'))=decide ((o,g,m)=(o',g',m')):=by
 simp only[gM,YS,aaZ,Xg,yS,ahC,Bool.and_true]
 by_cases h1:o=o' <;> by_cases h2:g=g' <;> by_cases h3:m=m' <;> simp[h1,h2,h3]
theorem acK(r s:Row3):PyData.eqv (gM r) (gM s)=decide (r=s):=agl _ _ _ _ _ _
theorem Vv:∀l:List Int,wg (l.map PyData.int)=some (l.map NestedKey.num)
 |[]=>rfl
 |i::l=>by rw[aqI,wg,Vv l];rfl
theorem akB(r:Row3):rR (gM r)=some (.tup [.num r.1,.num r.2.1,.tup (r.2.2.map .num)]):=by
 simp[gM,rR,wg,Vv]
theorem depth_ints:∀l:List Int,NestedKey.depthAll (l.map NestedKey.num)<=1
 |[]=>by simp[NestedKey.depthAll]
 |i::l=>by
  have:=depth_ints l
  simp[NestedKey.depthAll,NestedKey.depth]
  omega
theorem TJ(kvs:List (Dat×Dat))(r:Row3):dhas true kvs (gM r)=.ok (kvs.any fun p=>PyData.eqv p.1 (gM r)):=by
 have hk:=akB r
 have hd:NestedKey.depth (.tup [.num r.1,.num r.2.1,.tup (r.2.2.map .num)])<=8:=by
  have:=depth_ints r.2.2
  simp[NestedKey.depth,NestedKey.depthAll]
  omega
 show(match rR (gM r) with
  |some k=>match decide (k.depth<=8) with
   |true=>Out.ok (kvs.any fun p=>PyData.eqv p.1 (gM r))
   |false=>.bad
  |none=>.bad)=_
 rw[hk]
 show(match decide (NestedKey.depth (.tup [.num r.1,.num r.2.1,.tup (r.2.2.map .num)])<=8) with
   |true=>Out.ok (kvs.any fun p=>PyData.eqv p.1 (gM r))
   |false=>.bad)=_
 rw[decide_eq_true hd]
theorem Zh(held:List Row3)(r:Row3):((held.map fun r=>(gM r,PyData.bool true)).any fun p=>PyData.eqv p.1 (gM r))=decide (r∈held):=by
 induction held with
 |nil=>simp
 |cons s held ih=>
  rw[aqI,arD,ih,acK]
  by_cases h:s=r
  ·simp[h]
  ·have:¬r=s:=fun z=>h z.symm
   simp[h,this]
def bM(c:aK)(o g:Int):List (List Int):=(c.held.filter fun r=>(r.1==o)&&(r.2.1==g)).map fun r=>r.2.2
section
variable{M:Mo}{L:Lay}{c:aK}(a:At M L c)(few:c.held.length<=50000)
include a few
theorem Je(o g:Int):uz M [ob L.r,.int o,.int g]=.ok (.list ((bM c o g).map aM)):=by
 have hr:=a.hr
 have key:=gU (tg:=bL [3,4,5]) (tt:=kY (bx (aA bZ (ao 3) (ao 1))) (bx (aA bZ (ao 4) (ao 2)))) (te:=aq 5) (M:=M) (ρ:=[some (.dat (ob L.r)),some (.dat (.int o)),some (.dat (.int g)),none,none,none]) gM (fun r=>(r.1==o)&&(r.2.1==g)) (fun r=>aM r.2.2) c.held fun r _=>⟨[some (.dat (ob L.r)),some (.dat (.int o)),some (.dat (.int g)),some (.dat (.int r.1)),some (.dat (.int r.2.1)),some (.dat (aM r.2.2))],by simp[gM],by
  by_cases h:r.1=o <;> simp[h],fun _=>by simp⟩
 have e:(c.held.map fun r=>(gM r,PyData.bool true)).map (·.1)=c.held.map gM:=by simp
 simp[uz,yJ,hr,mW,bM]
 simp[aq3,key,few]
theorem Xo(o g:Int):nJ M [ob L.r,.int o,.int g]=.ok (.bool (decide (bM c o g≠[]))):=by
 have hr:=a.hr
 have h:=Je a few o g
 simp[nJ,sV,hr,mW,cJ,h,List.length_pos_iff]
theorem V8(near:List Int):mV M [ob L.r,lI near]=.ok (.list ((c.held.filter fun r=>decide (r.2.1∈near)).map fun r=>Ear.rD (r.1,r.2.2))):=by
 have hr:=a.hr
 have key:=gU (tg:=bL [2,3,4]) (tt:=bx (aA (inD false) (ao 3) (ao 1))) (te:=bA (ak (aq 2) (ak (aq 4) au))) (M:=M) (ρ:=[some (.dat (ob L.r)),some (.dat (lI near)),none,none,none]) gM (fun r=>decide (r.2.1∈near)) (fun r=>Ear.rD (r.1,r.2.2)) c.held fun r _=>⟨[some (.dat (ob L.r)),some (.dat (lI near)),some (.dat (.int r.1)),some (.dat (.int r.2.1)),some (.dat (aM r.2.2))],by simp[gM],by simp[FT],fun _=>by simp[Ear.rD,Ear.dT]⟩
 simp[mV,qZ,hr,mW]
 simp[aq3,key,few]
theorem aan:oV M [ob L.r]=.ok (.list (c.held.map gM)):=by
 have hr:=a.hr
 simp[oV,uJ,hr,mW,aq3]
theorem Lg(o g:Int)(m:List Int):if (o,g,m)∈c.held then iU M [ob L.r,.int o,.int g,aM m]=.exc ⟨"HasRight",[]⟩ M else
  ∃M',iU M [ob L.r,.int o,.int g,aM m]=.ok .none M'/\At M' L { c with held:=c.held++[(o,g,m)] }:=by
 have hr:=a.hr
 have h1:=TJ (c.held.map fun r=>(gM r,PyData.bool true)) (o,g,m)
 rw[Zh]at h1
 simp only[gM]at h1
 have f2:c.held.length < 100000:=by omega
 by_cases h:(o,g,m)∈c.held
 ·rw[if_pos h]
  simp[h]at h1
  simp[iU,nQ,hr,mW,gM,h1]
 ·rw[if_neg h]
  refine⟨_,?_,a.afJ⟩
  simp[h]at h1
  simp[iU,nQ,hr,mW,gM,h1,f2]
end
theorem aee(held:List Row3)(r:Row3):((held.map fun r=>(gM r,PyData.bool true)).filter fun p=>!PyData.eqv p.1 (gM r))=(held.filter fun s=>decide (s≠r)).map fun r=>(gM r,PyData.bool true):=by
 induction held with
 |nil=>rfl
 |cons s held ih=>
  simp only[aqI,arw,acK,ih]
  by_cases h:s=r <;> simp[h]
def WQ(o g:Int)(k:List (List Int))(s:List Row3):List Row3:=k.foldl (fun s mk=>s.filter fun r=>decide (r≠(o,g,mk))) s
section
variable{M:Mo}{L:Lay}{c:aK}(hr:M[L.r]?=some (mW c))
include hr
theorem VF(o g:Int)(all:List (List Int)):∀(k:List (List Int)) (s:List Row3) (x:Option Cell),k.Nodup->(∀mk∈k,(o,g,mk)∈s)->s.length<=50000->
  ∃x',gQ (aF 4) wH (k.map aM) (M.set L.r (mW { c with held:=s })) [some (.dat (ob L.r)),some (.dat (.int o)),some (.dat (.int g)),some (.dat (.list (all.map aM))),x]=.next [some (.dat (ob L.r)),some (.dat (.int o)),some (.dat (.int g)),some (.dat (.list (all.map aM))),x'] (M.set L.r (mW { c with held:=WQ o g k s }))
 |[],s,x,_,_,_=>⟨x,rfl⟩
 |mk::k,s,x,nd,h,hf=>by
  have hl:∀i,(M.set L.r i)[L.r]?=some i:=fun i=>by rw[bF hr,if_pos rfl]
  rw[arB]at nd
  have h1:=TJ (s.map fun r=>(gM r,PyData.bool true)) (o,g,mk)
  rw[Zh,decide_eq_true (h mk aqK)]at h1
  have h2:=aee s (o,g,mk)
  have f2:s.length<=100000:=by omega
  obtain⟨x',ih⟩:=VF o g all k (s.filter fun r=>decide (r≠(o,g,mk))) (some (.dat (aM mk))) nd.2 (fun z hz=>by
   rw[aq1]
   refine⟨h z (aqJ _ hz),decide_eq_true fun e=>?_⟩
   have:z=mk:=by simpa using e
   exact nd.1 (this ▸ hz)) (aq7 (aqW _ _) hf)
  refine⟨x',?_⟩
  rw[aqI,jG (ρ1:=[some (.dat (ob L.r)),some (.dat (.int o)),some (.dat (.int g)),some (.dat (.list (all.map aM))),some (.dat (aM mk))]) (M2:=M.set L.r (mW { c with held:=s.filter fun r=>decide (r≠(o,g,mk)) })) (ρ2:=[some (.dat (ob L.r)),some (.dat (.int o)),some (.dat (.int g)),some (.dat (.list (all.map aM))),some (.dat (aM mk))]) (by simp) ?_,ih]
  ·rfl
  ·have h1':dhas true (s.map fun r=>(gM r,PyData.bool true)) (.tuple [.int o,.int g,aM mk])=.ok true:=h1
   have h2':((s.map fun r=>(gM r,PyData.bool true)).filter fun p=>!PyData.eqv p.1 (.tuple [.int o,.int g,aM mk]))=(s.filter fun s=>decide (s≠(o,g,mk))).map fun r=>(gM r,PyData.bool true):=h2
   simp[wH,hl,mW,h1',f2]
   rw[h2']
   simp
end
theorem XH(o g:Int):∀(k:List (List Int)) (s:List Row3),WQ o g k s=s.filter fun r=>decide (∀mk∈k,r≠(o,g,mk))
 |[],s=>(arM.mpr (by simp)).symm
 |mk::k,s=>by
  show WQ o g k (s.filter _)=_
  rw[XH o g k,arP]
  congr 1
  funext r
  by_cases h1:r=(o,g,mk) <;> simp[h1]
def dropped(c:aK)(o g:Int):List Row3:=c.held.filter fun r=>!((r.1==o)&&(r.2.1==g))
theorem abY(c:aK)(o g:Int):WQ o g (bM c o g) c.held=dropped c o g:=by
 rw[XH]
 unfold dropped
 refine List.filter_congr fun r hr=>?_
 obtain⟨x,y,z⟩:=r
 by_cases h:x=o/\y=g
 ·obtain⟨rfl,rfl⟩:=h
  have:z∈bM c x y:=by
   unfold bM
   rw[aqR]
   exact⟨(x,y,z),by rw[aq1];exact⟨hr,by simp⟩,rfl⟩
  simp
  exact this
 ·have e:(!((x==o)&&(y==g)))=true:=by
   by_cases h1:x=o <;> by_cases h2:y=g <;> simp_all
  have e2:∀mk∈bM c o g,(x,y,z)≠(o,g,mk):=fun mk _ z=>by
   simp at z
   exact h ⟨z.1,z.2.1⟩
  rw[e,decide_eq_true e2]
theorem aap{c:aK}(h:c.held.Nodup)(o g:Int):(bM c o g).Nodup:=by
 unfold bM
 have h1:(c.held.filter fun r=>(r.1==o)&&(r.2.1==g)).Nodup:=h.filter _
 unfold List.Nodup at h1 ⊢
 rw[List.pairwise_map]
 refine List.Pairwise.imp_of_mem (fun {r s} hr hs ne e=>ne ?_) h1
 rw[aq1]at hr hs
 obtain⟨r1,r2,r3⟩:=r
 obtain⟨s1,s2,s3⟩:=s
 have:=hr.2
 have:=hs.2
 simp at *
 obtain⟨rfl,rfl⟩:=hr.2
 obtain⟨rfl,rfl⟩:=hs.2
 exact⟨rfl,rfl,e⟩
section
variable{M:Mo}{L:Lay}{c:aK}(a:At M L c)(few:c.held.length<=50000)(nd:c.held.Nodup)
include a few nd
theorem ag8(o g:Int):if bM c o g=[] then m9 M [ob L.r,.int o,.int g]=.exc ⟨"NoRight",[]⟩ M else
  ∃M',m9 M [ob L.r,.int o,.int g]=.ok (.list ((bM c o g).map aM)) M'/\At M' L { c with held:=dropped c o g }:=by
 have hr:=a.hr
 have h1:=Je a few o g
 by_cases h:bM c o g=[]
 ·rw[if_pos h]
  rw[h]at h1
  simp[m9,vo,hr,mW,cJ,h1]
 ·rw[if_neg h]
  obtain⟨x',key⟩:=VF hr o g (bM c o g) (bM c o g) c.held none (aap nd o g) (fun mk hm=>by
   unfold bM at hm
   rw[aqR]at hm
   obtain⟨⟨r1,r2,r3⟩,h3,rfl⟩:=hm
   rw[aq1]at h3
   have:=h3.2
   simp at this
   obtain⟨rfl,rfl⟩:=this
   exact h3.1) few
  have e:(mW { c with held:=c.held })=mW c:=rfl
  rw[e,Yy hr,abY]at key
  refine⟨_,?_,a.afJ⟩
  have he:(bM c o g).isEmpty=false:=by
   cases hm:bM c o g with
   |nil=>exact absurd hm h
   |cons _ _=>rfl
  simp[m9,vo,hr,mW,cJ,h1,he]
  simp[key]
  rfl
end
def Ec(acc:List Row3)(r:Row3):List Row3:=if r∈acc then acc else acc++[r]
def Bf(e h:Int)(r:Row3):Row3:=(if r.1=e then h else r.1,r.2.1,r.2.2)
def handed(c:aK)(e h:Int):List Row3:=(c.held.map (Bf e h)).foldl Ec []
theorem aaH{tg:fK}{tk:QF}{M:Mo}{ρ:Rf.Env}(f:Row3->Row3):∀(xs acc:List Row3),(∀x∈xs,∃ρ1,tg (gM x) ρ=some ρ1/\tk M ρ1=.ok (gM (f x)))->CZ tg tk M ρ (xs.map gM) (acc.map fun r=>(gM r,PyData.bool true))=.ok (((xs.map f).foldl Ec acc).map fun r=>(gM r,PyData.bool true))
 |[],acc,_=>rfl
 |x::xs,acc,h=>by
  obtain⟨ρ1,h1,h2⟩:=h x aqK
  rw[aqI,CZ,h1]
  show((xK (tk M ρ1)).bind fun kd=>(dhas true _ kd).bind fun r=>_)=_
  rw[h2,Xi,Out.xY,TJ,Zh,Out.xY,aqI,arO]
  have ih:=aaH f xs (Ec acc (f x)) fun y hy=>h y (aqJ _ hy)
  unfold Ec at ih ⊢
  by_cases hm:f x∈acc
  ·rw[if_pos hm]at ih ⊢
   rw[decide_eq_true hm]
   exact ih
  ·rw[if_neg hm]at ih ⊢
   rw[decide_eq_false hm]
   rw[ara]at ih
   exact ih
section
variable{M:Mo}{L:Lay}{c:aK}(a:At M L c)(few:c.held.length<=50000)
include a few
theorem Zk(e h:Int):∃M',oH M [ob L.r,.int e,.int h]=.ok .none M'/\At M' L { c with held:=handed c e h }:=by
 have hr:=a.hr
 have hl:L.r < M.length:=(aqG.mp hr).1
 have hr2:(M++[(⟨"",[]⟩:Inst)])[L.r]?=some (mW c):=by rw[aqP hl];exact hr
 have key:=aaH (tg:=bL [3,4,5]) (tk:=bA (ak (Qu (bx (aA bZ (ao 3) (ao 1))) (aq 2) (aq 3)) (ak (aq 4) (ak (aq 5) au)))) (M:=M) (ρ:=[some (.dat (ob L.r)),some (.dat (.int e)),some (.dat (.int h)),none,none,none]) (Bf e h) c.held [] fun r _=>⟨[some (.dat (ob L.r)),some (.dat (.int e)),some (.dat (.int h)),some (.dat (.int r.1)),some (.dat (.int r.2.1)),some (.dat (aM r.2.2))],by simp[gM],by
  by_cases z:r.1=e <;> simp[z,Bf,gM]⟩
 have ex:At (M++[⟨"",[]⟩]) L c:=by
  have lt:∀{k:Nat} {i:Inst},M[k]?=some i->(M++[(⟨"",[]⟩:Inst)])[k]?=some i:=fun z=>by rw[aqP (aqG.mp z).1];exact z
  obtain⟨n,m,hg⟩:=a.hg
  obtain⟨n1,hh⟩:=a.hh
  exact⟨lt a.hc,⟨n,m,lt hg⟩,lt a.hr,⟨n1,lt hh⟩,a.len,fun i h b h1 h2=>by
   obtain⟨n2,z⟩:=a.hb i h b h1 h2
   exact⟨n2,lt z⟩,a.nd,fun p hp=>⟨lt (a.fr p hp).1,(a.fr p hp).2⟩⟩
 refine⟨_,?_,ex.afJ⟩
 simp only[arK]at key
 simp[oH,tG,hr,hr2,mW,jU]
 simp[aq3,key,few,handed]
end
@[simp]theorem ap1 (n:Nat) (b:dH):(iB n b).cls="Beast":=rfl
theorem aad{M:Mo}{h n:Nat}{b:dH}(hb:M[h]?=some (iB n b))(s:Sd):lZ M [ob h,s.dat]=.ok .none (M.set h (iB n { b with sd:=s })):=by
 have hl:∀i,(M.set h i)[h]?=some i:=fun i=>by rw[bF hb,if_pos rfl]
 simp[lZ,qw,Sd.dat,hb,iB,hl,jU]
theorem ZR{M:Mo}{h n:Nat}{b:dH}(hb:M[h]?=some (iB n b)):vf M [ob h]=.ok b.sd.dat:=by
 simp[vf,zX,Sd.dat,hb,iB]
theorem sG{M:Mo}{h n:Nat}{b:dH}(hb:M[h]?=some (iB n b))(e:En)(he:b.sd.ear.length<=1000)(hf:b.en.length<=50000):lQ M [ob h,e.dat]=.ok .none (M.set h (iB n { b with en:=b.en++[e],sd:=go b.sd e })):=by
 have hl:∀i,(M.set h i)[h]?=some i:=fun i=>by rw[bF hb,if_pos rfl]
 have h1:(M.set h (iB n { b with en:=b.en++[e] }))[h]?=some (iB n { b with en:=b.en++[e] }):=hl _
 have h2:=ZR h1
 have h3:=gone_ok (M.set h (iB n { b with en:=b.en++[e] })) b.sd e he
 have h4:=aad h1 (go b.sd e)
 have h5:b.en.length+1 < 100000:=by omega
 have e1:M.set h ⟨"Beast",[("story",.lst n (b.fi.dat::(b.en.map En.dat++[e.dat]))),("mother",.dat (.int b.mo)),("owner",.dat (.int b.sd.o)),("ground",.dat (.int b.sd.g)),("due",.dat (mX b.sd.due)),("ear",.dat (aM b.sd.ear)),("alive",.dat (.bool b.sd.al))]⟩=M.set h (iB n { b with en:=b.en++[e] }):=by simp[iB]
 simp[lQ,yK,hb,iB,h5]
 rw[e1]
 simp[h1,lO,jD,h2,h3,h4]
 simp[iB]
def ajE:Fi->Int
 |.born m _ _=>m
 |_=>0
def Ei(f:Fi):dH:=⟨f,[],ajE f,beg f⟩
theorem ahV(M:Mo)(f:Fi):tL (M++[⟨"Beast",[]⟩]) [ob M.length,f.dat]=.ok .none (M++[iB (M.length+1) (Ei f),⟨"",[]⟩]):=by
 have hbeg:=fun M=>afm M f
 have hg:∀i (r:List Inst),(M++i::r)[M.length]?=some i:=fun i r=>by simp
 have hs:∀i j (r:List Inst),(M++i::r).set M.length j=M++j::r:=fun i j r=>by simp
 cases f <;> simp[tL,Cz,Fi.dat,hg,hs,jU,lZ,qw,jD,Bq,Lz,jr,iB,Ei,ajE,beg,mX,Fi.dat]
def bW(L:Lay)(c:aK):List (Nat×Nat×dH):=(L.bs.zip c.bs).mapIdx fun i p=>(i,p.1,p.2)
def nb(x:Nat×Nat×dH):Dat:=.tuple [.int ((x.1:Int)+1),ob x.2.1]
theorem DN{L:Lay}{c:aK}{x:Nat×Nat×dH}(h:x∈bW L c):L.bs[x.1]?=some x.2.1/\c.bs[x.1]?=some x.2.2:=by
 unfold bW at h
 obtain⟨i,hi,e⟩:=List.mem_mapIdx.mp h
 have hz:=aqH hi
 rw[arA]at hz
 subst e
 exact hz
theorem At.hb'{M:Mo}{L:Lay}{c:aK}(a:At M L c){x:Nat×Nat×dH}(h:x∈bW L c):∃n,M[x.2.1]?=some (iB n x.2.2):=by
 obtain⟨h1,h2⟩:=DN h
 exact a.hb _ _ _ h1 h2
theorem At.len'{M:Mo}{L:Lay}{c:aK}(a:At M L c):(bW L c).length=c.bs.length:=by
 unfold bW
 simp[a.len]
theorem At.enum{M:Mo}{L:Lay}{c:aK}(a:At M L c):rN 1 (L.bs.map ob)=(bW L c).map nb:=by
 unfold rN bW
 apply aq5
 intro i
 simp only[arp,aqQ]
 by_cases hi:i < L.bs.length
 ·have hi2:i < c.bs.length:=by rw[←a.len];exact hi
  have hz:(L.bs.zip c.bs)[i]?=some (L.bs[i],c.bs[i]):=by
   rw[arA]
   exact⟨aqH hi,aqH hi2⟩
  rw[hz]
  simp[hi,nb,Int.add_comm]
 ·have hi2:¬i < c.bs.length:=by rw[←a.len];exact hi
  have:(L.bs.zip c.bs)[i]?=none:=by
   rw[List.getElem?_eq_none_iff,List.length_zip]
   omega
  simp[aq8 (by omega:L.bs.length<=i),this]
section
variable{M:Mo}{L:Lay}{c:aK}(a:At M L c)(few:c.bs.length<=50000)
include a few
theorem Aa:oU M [ob L.h]=.ok (.list (((bW L c).filter fun x=>x.2.2.sd.al).map nb)):=by
 obtain⟨n,hh⟩:=a.hh
 have hl:=a.len'
 have he:=a.enum
 have key:=gU (tg:=bL [1,2]) (tt:=jd (bJ "alive" (ao 2))) (te:=bA (ak (aq 1) (ak (aq 2) au))) (M:=M) (ρ:=[some (.dat (ob L.h)),none,none]) nb (fun x=>x.2.2.sd.al) nb (bW L c) fun x hx=>⟨[some (.dat (ob L.h)),some (.dat (.int ((x.1:Int)+1))),some (.dat (ob x.2.1))],by simp[nb],by
  obtain⟨n,hb⟩:=a.hb' hx
  simp[hb,iB],fun _=>by simp[nb]⟩
 simp[oU,uK,hh,dB]
 rw[he]
 simp[key,hl,few]
theorem QD(near:List Int):pJ M [ob L.h,lI near]=.ok (.list (((bW L c).filter fun x=>decide (x.2.2.sd.g∈near)&&x.2.2.sd.al).map nb)):=by
 obtain⟨n,hh⟩:=a.hh
 have h1:=Aa a few
 have hl:((bW L c).filter fun x=>x.2.2.sd.al).length<=50000:=aq7 (aqW _ _) (by rw[a.len'];exact few)
 have key:=gU (tg:=bL [2,3]) (tt:=bx (aA (inD false) (bJ "ground" (ao 3)) (ao 1))) (te:=bA (ak (aq 2) (ak (aq 3) au))) (M:=M) (ρ:=[some (.dat (ob L.h)),some (.dat (lI near)),none,none]) nb (fun x=>decide (x.2.2.sd.g∈near)) nb ((bW L c).filter fun x=>x.2.2.sd.al) fun x hx=>⟨[some (.dat (ob L.h)),some (.dat (lI near)),some (.dat (.int ((x.1:Int)+1))),some (.dat (ob x.2.1))],by simp[nb],by
  obtain⟨n,hb⟩:=a.hb' (aq1.mp hx).1
  simp[hb,iB,FT],fun _=>by simp[nb]⟩
 rw[arP]at key
 simp[pJ,yc,hh,dB,dN,h1,key,hl]
theorem aeC(o:Int):wX M [ob L.h,.int o]=.ok (.list (((bW L c).filter fun x=>(x.2.2.sd.o==o)&&x.2.2.sd.al).map nb)):=by
 obtain⟨n,hh⟩:=a.hh
 have h1:=Aa a few
 have hl:((bW L c).filter fun x=>x.2.2.sd.al).length<=50000:=aq7 (aqW _ _) (by rw[a.len'];exact few)
 have key:=gU (tg:=bL [2,3]) (tt:=bx (aA bZ (bJ "owner" (ao 3)) (ao 1))) (te:=bA (ak (aq 2) (ak (aq 3) au))) (M:=M) (ρ:=[some (.dat (ob L.h)),some (.dat (.int o)),none,none]) nb (fun x=>x.2.2.sd.o==o) nb ((bW L c).filter fun x=>x.2.2.sd.al) fun x hx=>⟨[some (.dat (ob L.h)),some (.dat (.int o)),some (.dat (.int ((x.1:Int)+1))),some (.dat (ob x.2.1))],by simp[nb],by
  obtain⟨n,hb⟩:=a.hb' (aq1.mp hx).1
  simp[hb,iB],fun _=>by simp[nb]⟩
 rw[arP]at key
 simp[wX,Cr,hh,dB,dN,h1,key,hl]
theorem XJ(k:Int):kh M [ob L.h,.int k]=if 1<=k/\k<=c.bs.length then .ok (ob ((L.bs[(k - 1).toNat]?).getD 0)) else .exc ⟨"NoBeast",[]⟩:=by
 obtain⟨n,hh⟩:=a.hh
 have hlen:(L.bs.length:Int)=c.bs.length:=by rw[a.len]
 by_cases h:1<=k/\k<=c.bs.length
 ·rw[if_pos h]
  obtain⟨j,rfl⟩:∃j:Nat,k=(j:Int)+1:=⟨(k - 1).toNat,by omega⟩
  have hj:j < L.bs.length:=by have:=a.len;omega
  have h1:(1:Int)<=j+1:=by omega
  have h2:(j:Int)+1<=L.bs.length:=by omega
  simp[kh,sS,hh,dB,h1,h2,hj]
 ·rw[if_neg h]
  by_cases h1:1<=k
  ·have h2:¬k<=L.bs.length:=by omega
   simp[kh,sS,hh,dB,h1,h2]
  ·simp[kh,sS,hh,dB,h1]
end
def bk(c:aK)(k:Int):Option dH:=if 1<=k/\k<=c.bs.length then c.bs[(k - 1).toNat]? else none
def hk(L:Lay)(k:Int):Nat:=(L.bs[(k - 1).toNat]?).getD 0
def oF(b:dH)(e:En):dH:={ b with en:=b.en++[e],sd:=go b.sd e }
def eX(c:aK)(i:Nat)(e:En):aK:={ c with bs:=c.bs.modify i fun b=>oF b e }
theorem qO{M:Mo}{L:Lay}{c:aK}(a:At M L c){k:Int}{b:dH}(h:bk c k=some b):1<=k/\k<=c.bs.length/\L.bs[(k - 1).toNat]?=some (hk L k)/\c.bs[(k - 1).toNat]?=some b/\∃n,M[hk L k]?=some (iB n b):=by
 unfold bk at h
 split at h
 ·next hh=>
  have hl:(k - 1).toNat < L.bs.length:=by have:=a.len;omega
  have e:L.bs[(k - 1).toNat]?=some (hk L k):=by
   unfold hk
   rw[aqH hl]
   rfl
  exact⟨hh.1,hh.2,e,h,a.hb _ _ _ e h⟩
 ·cases h
theorem aaz{c:aK}{k:Int}(h:bk c k=none):¬(1<=k/\k<=c.bs.length):=fun z=>by
 unfold bk at h
 rw[if_pos z,List.getElem?_eq_none_iff]at h
 omega
section
variable{M:Mo}{L:Lay}{c:aK}(a:At M L c)(few:c.bs.length<=50000)
include a few
theorem Jb{k:Int}{b:dH}(h:bk c k=some b):kh M [ob L.h,.int k]=.ok (ob (hk L k)):=by
 obtain⟨h1,h2,_⟩:=qO a h
 rw[XJ a few,if_pos ⟨h1,h2⟩]
 rfl
theorem Ra{k:Int}(h:bk c k=none):kh M [ob L.h,.int k]=.exc ⟨"NoBeast",[]⟩:=by
 rw[XJ a few,if_neg (aaz h)]
theorem CG(k:Int):qM M [ob L.h,.int k]=match bk c k with
  |none=>.exc ⟨"NoBeast",[]⟩
  |some b=>if b.sd.al then .ok (ob (hk L k)) else .exc ⟨"Dead",[]⟩:=by
 obtain⟨n,hh⟩:=a.hh
 cases h:bk c k with
 |none=>
  have h1:=Ra a few h
  simp[qM,vq,hh,dB,fj,h1]
 |some b=>
  have h1:=Jb a few h
  obtain⟨_,_,_,_,n',hb⟩:=qO a h
  cases h2:b.sd.al <;> simp[qM,vq,hh,dB,fj,h1,hb,iB,h2]
theorem Ku(k:Int):nu M [ob L.h,.int k]=match bk c k with
  |none=>.exc ⟨"NoBeast",[]⟩
  |some b=>if b.sd.al then(if b.sd.due=none then .exc ⟨"Unmarked",[]⟩ else .ok (ob (hk L k))) else .exc ⟨"Dead",[]⟩:=by
 obtain⟨n,hh⟩:=a.hh
 have h0:=CG a few k
 cases h:bk c k with
 |none=>
  rw[h]at h0
  simp[nu,qI,hh,dB,bG,h0]
 |some b=>
  rw[h]at h0
  obtain⟨_,_,_,_,n',hb⟩:=qO a h
  cases h2:b.sd.al with
  |false=>
   simp[h2]at h0
   simp[nu,qI,hh,dB,bG,h0,h2]
  |true=>
   simp[h2]at h0
   cases h3:b.sd.due <;> simp[nu,qI,hh,dB,bG,h0,hb,iB,h2,h3,mX,oO]
def yW(k:Int)(b:dH):Bool:=(b.mo==k)&&b.sd.due.isNone
theorem adb(k:Int):qJ M [ob L.h,.int k]=match bk c k with
  |none=>.exc ⟨"NoBeast",[]⟩
  |some _=>.ok (.list (((bW L c).filter fun x=>yW k x.2.2&&x.2.2.sd.al).map nb)):=by
 obtain⟨n,hh⟩:=a.hh
 have h1:=Aa a few
 have hl:((bW L c).filter fun x=>x.2.2.sd.al).length<=50000:=aq7 (aqW _ _) (by rw[a.len'];exact few)
 have key:=gU (tg:=bL [2,3]) (tt:=kY (bx (aA bZ (bJ "mother" (ao 3)) (ao 1))) (bx (xP false .none (bJ "due" (ao 3))))) (te:=bA (ak (aq 2) (ak (aq 3) au))) (M:=M) (ρ:=[some (.dat (ob L.h)),some (.dat (.int k)),none,none]) nb (fun x=>yW k x.2.2) nb ((bW L c).filter fun x=>x.2.2.sd.al) fun x hx=>⟨[some (.dat (ob L.h)),some (.dat (.int k)),some (.dat (.int ((x.1:Int)+1))),some (.dat (ob x.2.1))],by simp[nb],by
  obtain⟨n,hb⟩:=a.hb' (aq1.mp hx).1
  by_cases h2:x.2.2.mo=k <;> cases h3:x.2.2.sd.due <;> simp[hb,iB,yW,h2,h3,mX,oO],fun _=>by simp[nb]⟩
 rw[arP]at key
 cases h:bk c k with
 |none=>
  have h2:=Ra a few h
  simp[qJ,u6,hh,dB,fj,h2]
 |some b=>
  have h2:=Jb a few h
  simp[qJ,u6,hh,dB,fj,dN,h1,h2,key,hl]
theorem Kl(f:Fi)(hf:c.bs.length < 50000):∃M' h,qb M [ob L.h,f.dat]=.ok (.int (c.bs.length+1)) M'/\At M' { L with bs:=L.bs++[h] } { c with bs:=c.bs++[Ei f] }:=by
 obtain⟨n,hh⟩:=a.hh
 have hl:L.h < M.length:=(aqG.mp hh).1
 have hi:=ahV M f
 have hh2:(M++[iB (M.length+1) (Ei f),⟨"",[]⟩])[L.h]?=some (dB n L):=by rw[aqP hl];exact hh
 have hs:∀i,((M++[iB (M.length+1) (Ei f),(⟨"",[]⟩:Inst)]).set L.h i)[L.h]?=some i:=fun i=>by rw[bF hh2,if_pos rfl]
 have hz:c.bs.length < 100000:=by omega
 refine⟨_,M.length,?_,a.amM (M2:=M++[iB (M.length+1) (Ei f),⟨"",[]⟩]) (n:=M.length+1) (n2:=n) (aq2 _) (fun k hk=>by rw[aqP hk]) (by simp)⟩
 simp[qb,vA,hh,dB,hi,hh2,hs,hz,a.len]
end
theorem yD{M:Mo}{L:Lay}{c:aK}(a:At M L c){i h n:Nat}{b:dH}{e:En}(h1:L.bs[i]?=some h)(h2:c.bs[i]?=some b):At (M.set h (iB n (oF b e))) L (eX c i e):=by
 have:=a.setB (n:=n) (b':=oF b e) h1
 have hm:c.bs.modify i (fun b=>oF b e)=c.bs.set i (oF b e):=by
  apply aq5
  intro j
  rw[List.getElem?_modify,arC]
  by_cases hj:i=j
  ·subst hj
   have hl:=(aqG.mp h2).1
   simp[hl,h2]
   have:=(aqG.mp h2).2
   rw[this]
  ·simp[hj]
 unfold eX
 rw[hm]
 exact this
theorem vC(c:aK)(i j:Nat)(e:En):(eX c i e).bs[j]?=if i=j then(c.bs[j]?).map fun b=>oF b e else c.bs[j]?:=by
 unfold eX
 simp only[List.getElem?_modify]
 by_cases h:i=j <;> simp[h]
def uW(xs:List (Nat×Nat×dH))(e:En)(c:aK):aK:=xs.foldl (fun c x=>eX c x.1 e) c
theorem OD{tg:fK}{body:SF}(Q:Rf.Env->Prop)(P:Nat->aK->Prop)(e:En)(L:Lay)(T:Nat):∀(xs:List (Nat×Nat×dH)) (M:Mo) (c:aK) (ρ:Rf.Env) (i:Nat),i+xs.length<=T->At M L c->P i c->Q ρ->
  (∀M c ρ x i,i < T->At M L c->P i c->Q ρ->x∈xs->∃ρ1 ρ2 M2,tg (nb x) ρ=some ρ1/\body M ρ1=.next ρ2 M2/\Q ρ2/\At M2 L (eX c x.1 e)/\P (i+1) (eX c x.1 e))->
  ∃ρ' M',gQ tg body (xs.map nb) M ρ=.next ρ' M'/\Q ρ'/\At M' L (uW xs e c)
 |[],M,c,ρ,i,_,a,p,q,_=>⟨ρ,M,rfl,q,a⟩
 |x::xs,M,c,ρ,i,hT,a,p,q,h=>by
  rw[aqS]at hT
  obtain⟨ρ1,ρ2,M2,h1,h2,h3,h4,h5⟩:=h M c ρ x i (by omega) a p q aqK
  obtain⟨ρ',M',g1,g2,g3⟩:=OD Q P e L T xs M2 _ ρ2 (i+1) (by omega) h4 h5 h3 fun M c ρ y i hi a p q hy=>h M c ρ y i hi a p q (aqJ _ hy)
  exact⟨ρ',M',by rw[aqI,jG h1 h2];exact g1,g2,g3⟩
structure Ke(n:Nat)(c:aK):Prop where
 ear:∀b∈c.bs,b.sd.ear.length=6
 en:∀b∈c.bs,b.en.length<=n
theorem aj5(s:Sd)(e:En)(he:s.ear.length=6)(h2:match e with|.cut l=>l.length=6|.sold _ l=>l.length=6|_=>True):(go s e).ear.length=6:=by
 cases e <;> simp_all [go,nO]
theorem Qx(e:En):∀(xs:List (Nat×Nat×dH)) (c:aK) (j:Nat),(xs.map (·.1)).Nodup->(uW xs e c).bs[j]?=if j∈xs.map (·.1) then(c.bs[j]?).map fun b=>oF b e else c.bs[j]?
 |[],c,j,_=>by simp[uW]
 |x::xs,c,j,nd=>by
  rw[aqI,arB]at nd
  show(uW xs e (eX c x.1 e)).bs[j]?=_
  rw[Qx e xs _ j nd.2,vC]
  by_cases h1:x.1=j
  ·subst h1
   rw[if_neg nd.1,if_pos rfl,if_pos (by simp)]
  ·rw[if_neg h1]
   by_cases h2:j∈xs.map (·.1)
   ·rw[if_pos h2,if_pos (by rw[aqI];exact aqJ _ h2)]
   ·rw[if_neg h2,if_neg (by
     rw[aqI,aqV]
     rintro(z|z)
     ·exact h1 z.symm
     ·exact h2 z)]
theorem MP(e:En):∀(xs:List (Nat×Nat×dH)) (c:aK),(uW xs e c)={ c with bs:=(uW xs e c).bs }
 |[],_=>rfl
 |x::xs,c=>by
  show uW xs e (eX c x.1 e)={ c with bs:=(uW xs e (eX c x.1 e)).bs }
  rw[MP e xs]
  rfl
theorem adH{L:Lay}{c:aK}(p:Nat×Nat×dH->Bool):(((bW L c).filter p).map (·.1)).Nodup:=by
 have h:((bW L c).map (·.1)).Nodup:=by
  have e:(bW L c).map (·.1)=List.range (L.bs.zip c.bs).length:=by
   unfold bW
   apply aq5
   intro i
   simp only[aqQ,arp]
   by_cases hi:i < (L.bs.zip c.bs).length
   ·rw[aqH hi,List.getElem?_range hi]
    rfl
   ·rw[aq8 (by omega:(L.bs.zip c.bs).length<=i),aq8 (by rw[List.length_range];omega:(List.range (L.bs.zip c.bs).length).length<=i)]
    rfl
  rw[e]
  exact List.nodup_range
 exact h.sublist (List.Sublist.map _ List.filter_sublist)
def nZ(p:dH->Bool)(e:En)(c:aK):aK:={ c with bs:=c.bs.map fun b=>if p b then oF b e else b }
theorem Vo{M:Mo}{L:Lay}{c:aK}(a:At M L c)(p:dH->Bool)(e:En):uW ((bW L c).filter fun x=>p x.2.2) e c=nZ p e c:=by
 rw[MP]
 unfold nZ
 congr 1
 apply aq5
 intro j
 rw[Qx _ _ _ _ (adH _),aqQ]
 by_cases hj:j < c.bs.length
 ·have hb:=aqH hj
  rw[hb]
  have hl:j < L.bs.length:=by rw[a.len];exact hj
  have mem:(j,L.bs[j],c.bs[j])∈bW L c:=by
   unfold bW
   rw[List.mem_mapIdx]
   refine⟨j,by simp;omega,by simp⟩
  by_cases hp:p c.bs[j]=true
  ·have:j∈((bW L c).filter fun x=>p x.2.2).map (·.1):=aqR.mpr ⟨_,aq1.mpr ⟨mem,hp⟩,rfl⟩
   rw[if_pos this]
   simp[hp]
  ·have:j∉((bW L c).filter fun x=>p x.2.2).map (·.1):=fun z=>by
    obtain⟨x,h1,h2⟩:=aqR.mp z
    obtain⟨h3,h4⟩:=aq1.mp h1
    obtain⟨_,h5⟩:=DN h3
    rw[h2,hb]at h5
    rw[←aq0 h5]at h4
    exact hp h4
   rw[if_neg this]
   simp[hp]
 ·rw[aq8 (by omega:c.bs.length<=j)]
  simp
theorem Ke.step{n:Nat}{c:aK}(bi:Ke n c)(i:Nat)(e:En)(h2:match e with|.cut l=>l.length=6|.sold _ l=>l.length=6|_=>True):Ke (n+1) (eX c i e):=by
 have key:∀b∈(eX c i e).bs,b∈c.bs∨∃b0∈c.bs,b=oF b0 e:=fun b hb=>by
  obtain⟨j,hj⟩:=List.mem_iff_getElem?.mp hb
  rw[vC]at hj
  split at hj
  ·obtain⟨b0,h3,h4⟩:=arx.mp hj
   exact .inr ⟨b0,aqM h3,h4.symm⟩
  ·exact .inl (aqM hj)
 refine⟨fun b hb=>?_,fun b hb=>?_⟩
 ·rcases key b hb with h|⟨b0,h,rfl⟩
  ·exact bi.ear b h
  ·exact aj5 _ _ (bi.ear b0 h) h2
 ·rcases key b hb with h|⟨b0,h,rfl⟩
  ·have:=bi.en b h
   omega
  ·have:=bi.en b0 h
   simp[oF]
   omega
section
variable{M:Mo}{L:Lay}{c:aK}(a:At M L c)(few:c.bs.length<=1000){n:Nat}(bi:Ke n c)(hn:n<=40000)
include a few bi hn
theorem Fe(k:Int){b:dH}(hk':bk c k=some b):∃M',oJ M [ob L.h,.int k]=.ok .none M'/\At M' L (nZ (fun x=>yW k x&&x.sd.al) (.followed b.sd.o b.sd.g) c):=by
 obtain⟨m,hh⟩:=a.hh
 have few2:c.bs.length<=50000:=by omega
 have h1:=Jb a few2 hk'
 have h2:=adb a few2 k
 rw[hk']at h2
 obtain⟨k1,k2,k3,k4,k5⟩:=qO a hk'
 have hlen:((bW L c).filter fun x=>yW k x.2.2&&x.2.2.sd.al).length<=1000:=aq7 (aqW _ _) (by rw[a.len'];exact few)
 obtain⟨ρ',M',g1,g2,g3⟩:=OD (tg:=bL [3,4]) (body:=qu) (fun ρ=>∃x y,ρ=[some (.dat (ob L.h)),some (.dat (.int k)),some (.dat (ob (hk L k))),x,y])
  (fun i c1=>(∃b1,c1.bs[(k - 1).toNat]?=some b1/\b1.sd.o=b.sd.o/\b1.sd.g=b.sd.g)/\Ke (n+i) c1/\c1.bs.length=c.bs.length) (.followed b.sd.o b.sd.g) L 1000 ((bW L c).filter fun x=>yW k x.2.2&&x.2.2.sd.al) M c [some (.dat (ob L.h)),some (.dat (.int k)),some (.dat (ob (hk L k))),none,none] 0 (by omega) a ⟨⟨b,k4,rfl,rfl⟩,bi,rfl⟩ ⟨none,none,rfl⟩ (fun M1 c1 ρ x i hi a1 p1 q1 hx=>by
   obtain⟨⟨bm,m1,m2,m3⟩,bi1,l1⟩:=p1
   obtain⟨x0,y0,rfl⟩:=q1
   obtain⟨nm,hm⟩:=a1.hb _ _ _ k3 m1
   obtain⟨e1,e2⟩:=DN (aq1.mp hx).1
   have hl:x.1 < c1.bs.length:=by rw[l1];exact(aqG.mp e2).1
   have e3:=aqH hl
   obtain⟨nx,hx1⟩:=a1.hb _ _ _ e1 e3
   have mem:=arl hl
   have hb:=sG hx1 (.followed b.sd.o b.sd.g) (by rw[bi1.ear _ mem];decide) (by have:=bi1.en _ mem;omega)
   refine⟨[some (.dat (ob L.h)),some (.dat (.int k)),some (.dat (ob (hk L k))),some (.dat (.int ((x.1:Int)+1))),some (.dat (ob x.2.1))],[some (.dat (ob L.h)),some (.dat (.int k)),some (.dat (ob (hk L k))),some (.dat (.int ((x.1:Int)+1))),some (.dat (ob x.2.1))],_,by simp[nb],?_,⟨_,_,rfl⟩,yD (n:=nx) a1 e1 e3,?_,bi1.step _ _ trivial,by simp[eX,l1]⟩
   ·have hb:lQ M1 [ob x.2.1,.tuple [.str "followed",.int b.sd.o,.int b.sd.g]]=_:=hb
    simp[qu,hx1,hm,bK]
    simp[iB]at hb ⊢
    simp[m2,m3,hb,oF]
   ·rw[vC,m1]
    by_cases z:x.1=(k - 1).toNat
    ·exact⟨oF bm (.followed b.sd.o b.sd.g),by rw[if_pos z];rfl,rfl,rfl⟩
    ·exact⟨bm,by rw[if_neg z],m2,m3⟩)
 rw[Vo a (fun x=>yW k x&&x.sd.al)]at g3
 refine⟨M',?_,g3⟩
 simp[oJ,sJ,hh,dB,fj,yC,h1,h2,g1]
end
def pD(p:Int×Int):Dat:=.tuple [.int p.1,.int p.2]
theorem GD:∀(x y:List Int),wY (x.map PyData.int) (y.map PyData.int)=(x.zip y).map pD
 |[],_=>by simp[wY]
 |_::_,[]=>by simp[wY]
 |a::x,b::y=>by
  have:=GD x y
  unfold wY at this ⊢
  rw[aqI,aqI,List.zipWith_cons_cons,this,arF,aqI]
  rfl
def zL(x y:List Int):Int:=(((x.zip y).filter fun p=>decide (p.1 < p.2)).map fun p=>p.2 - p.1).sum
def pA(x y:List Int):Int:=if zL y x > zL x y then zL y x else zL x y
def jM(x y:List Int):List Int:=(x.zip y).map fun p=>if p.2 > p.1 then p.2 else p.1
theorem ag0(x y:List Int)(h:x.length<=1000):(x.zip y).length<=50000:=by
 rw[List.length_zip]
 omega
theorem adG(l:List Int):YZ (.list (l.map PyData.int))=.ok (.int l.sum):=by
 show(match intsOf (l.map PyData.int) with
  |some ns=>Out.ok (PyData.int ns.sum)
  |none=>.bad)=_
 rw[Bg]
theorem Ow(M:Mo)(x y:List Int)(h:x.length<=1000):tY M [aM x,aM y]=.ok (.int (zL x y)):=by
 have key:=gU (tg:=bL [2,3]) (tt:=bx (aA YJ (ao 3) (ao 2))) (te:=aA lg (ao 3) (ao 2)) (M:=M) (ρ:=[some (.dat (aM x)),some (.dat (aM y)),none,none]) pD (fun p=>decide (p.1 < p.2)) (fun p=>.int (p.2 - p.1)) (x.zip y) fun p _=>⟨[some (.dat (aM x)),some (.dat (aM y)),some (.dat (.int p.1)),some (.dat (.int p.2))],by simp[pD],by simp,fun _=>by simp⟩
 have hz:=ag0 x y h
 have hs:=adG (((x.zip y).filter fun p=>decide (p.1 < p.2)).map fun p=>p.2 - p.1)
 rw[arf]at hs
 have hz2:min x.length y.length<=50000:=by omega
 simp[tY,Tv,GD,key,hz2]
 simp[aq3]at hs
 simp[hs,zL]
theorem afp(M:Mo)(x y:List Int)(h:x.length<=1000)(h2:y.length<=1000):Gn M [aM x,aM y]=.ok (.int (pA x y)):=by
 simp[Gn,RN,Ow M x y h,Ow M y x h2,pA]
theorem Uu(M:Mo)(x y:List Int)(r:Int)(h:x.length<=1000)(h2:y.length<=1000):qN M [aM x,aM y,.int r]=.ok (.bool (decide (pA x y<=r))):=by
 simp[qN,Xc,afp M x y h h2]
theorem HJ(M:Mo)(x y:List Int)(h:x.length<=1000):oZ M [aM x,aM y]=.ok (aM (jM x y)):=by
 have key:=gR (tg:=bL [2,3]) (te:=aA u5 (ao 2) (ao 3)) (M:=M) (ρ:=[some (.dat (aM x)),some (.dat (aM y)),none,none]) pD (fun p=>.int (if p.2 > p.1 then p.2 else p.1)) (x.zip y) fun p _=>⟨[some (.dat (aM x)),some (.dat (aM y)),some (.dat (.int p.1)),some (.dat (.int p.2))],by simp[pD],by simp⟩
 have hz2:min x.length y.length<=50000:=by omega
 simp[oZ,TY,GD,key,hz2,jM]
abbrev Rw:=Ear.Rw
theorem Vw:∀R:List Rw,CN (R.map Ear.rD)=some R
 |[]=>rfl
 |r::R=>by
  rw[aqI,CN,Vw R]
  have:abW (Ear.rD r)=some r:=by
   unfold Ear.rD Ear.dT
   show(intsOf (r.2.map PyData.int)).map _=_
   rw[Bg]
   rfl
  rw[this]
  rfl
theorem J8(M:Mo)(R:List Rw)(h:R.eraseDups.length<=76):pZ M [.list (R.map Ear.rD)]=.ok (.list ((bU R).map Ear.rD)):=by
 have:Qv (.list (R.map Ear.rD))=.ok (.list ((bU R).map Ear.rD)):=by
  show(match CN (R.map Ear.rD) with
   |some R=>match decide (R.eraseDups.length<=76) with
    |true=>Out.ok (PyData.list ((bU R).map Ear.rD))
    |false=>.bad
   |none=>.bad)=_
  rw[Vw]
  show(match decide (R.eraseDups.length<=76) with
    |true=>Out.ok (PyData.list ((bU R).map Ear.rD))
    |false=>.bad)=_
  rw[decide_eq_true h]
 simp[pZ,Nr,this]
theorem sU(R:List Rw):(bU R).length=R.eraseDups.length:=by
 unfold bU Rx
 rw[List.length_mergeSort]
def zR(o:Int)(e:List Int)(R:List Rw)(room:Int):List Rw:=(bU R).filter fun r=>!(r.1==o)&&decide (pA e r.2<=room)
def uw(R:List Rw):Prop:=∀r∈R,r.2.length=6
theorem abZ(M:Mo)(o:Int)(e:List Int)(R:List Rw)(room:Int)(he:e.length=6)(hR:uw R)(h:R.eraseDups.length<=76):zA M [.int o,aM e,.list (R.map Ear.rD),.int room]=.ok (.list ((zR o e R room).map Ear.rD)):=by
 have ht:=J8 M R h
 have hl:(bU R).length<=50000:=by rw[sU];omega
 have key:=gU (tg:=bL [4,5]) (tt:=kY (bx (aA Cm (ao 4) (ao 0))) (jd (aY qN (ak (aq 1) (ak (aq 5) (ak (aq 3) au)))))) (te:=bA (ak (aq 4) (ak (aq 5) au))) (M:=M) (ρ:=[some (.dat (.int o)),some (.dat (aM e)),some (.dat (.list (R.map Ear.rD))),some (.dat (.int room)),none,none]) Ear.rD (fun r=>!(r.1==o)&&decide (pA e r.2<=room)) Ear.rD (bU R) fun r hr=>⟨[some (.dat (.int o)),some (.dat (aM e)),some (.dat (.list (R.map Ear.rD))),some (.dat (.int room)),some (.dat (.int r.1)),some (.dat (aM r.2))],by simp[Ear.rD,Ear.dT],by
  have:=Uu M e r.2 room (by omega) (by rw[hR r (lN.mp hr)];decide)
  by_cases hz:r.1=o <;> simp[this,hz],fun _=>by simp[Ear.rD,Ear.dT]⟩
 simp[zA,K7,ht,key,hl,zR]
theorem MN(M:Mo)(o:Int)(e:List Int)(R:List Rw)(room:Int)(he:e.length=6)(hR:uw R)(h:R.eraseDups.length<=76):oG M [.int o,aM e,.list (R.map Ear.rD),.int room]=match zR o e R room with
  |[]=>.ok .none
  |r::_=>.exc ⟨"Clash",[("ear",aM (jM e r.2)),("others",Ear.rD r),("ones",Ear.rD (o,e))]⟩:=by
 have hb:=abZ M o e R room he hR h
 cases hx:zR o e R room with
 |nil=>
  rw[hx]at hb
  simp[oG,Ba,hb]
 |cons r rs=>
  rw[hx]at hb
  have hj:=HJ M e r.2 (by omega)
  simp[oG,Ba,hb]
  simp[Ear.rD,Ear.dT,hj]
theorem HW{α β:Type}{tg tg1:fK}{tt tt1:QT}{it1:IF}{vs1:List Nat}{te:QF}{M:Mo}{ρ:Rf.Env}(ds:α->Dat)(ys:α->List β)(ds1:β->Dat)(p:α->β->Bool)(f:α->β->Dat):∀(xs:List α),(∀x∈xs,∃ρ1,tg (ds x) ρ=some ρ1/\tt M ρ1=.ok true/\yP ρ1=true/\it1 M ρ1=.ok ((ys x).map ds1)/\∀y∈ys x,∃ρ2,tg1 (ds1 y) (cC ρ1 vs1)=some ρ2/\tt1 M ρ2=.ok (p x y)/\(p x y=true->te M ρ2=.ok (f x y)))->
  gJ tg tt it1 tg1 vs1 tt1 te M ρ (xs.map ds)=.ok (xs.flatMap fun x=>((ys x).filter (p x)).map (f x))
 |[],_=>rfl
 |x::xs,h=>by
  obtain⟨ρ1,h1,h2,h3,h4,h5⟩:=h x aqK
  have ih:=HW ds ys ds1 p f xs fun y hy=>h y (aqJ _ hy)
  have hc:=gU (tg:=tg1) (tt:=tt1) (te:=te) (M:=M) (ρ:=cC ρ1 vs1) ds1 (p x) (f x) (ys x) h5
  rw[aqI,gJ,h1]
  show((xK (tt M ρ1)).bind fun b=>if b=true then Out.when (yP ρ1) ((xK (it1 M ρ1)).bind fun es=>(dh tg1 tt1 te M (cC ρ1 vs1) es).bind fun r1=>(gJ tg tt it1 tg1 vs1 tt1 te M ρ (xs.map ds)).bind fun r=>Out.ok (r1++r)) else gJ tg tt it1 tg1 vs1 tt1 te M ρ (xs.map ds))=_
  rw[h2,Xi,Out.xY,if_pos rfl,h3,Out.V5,h4,Xi,Out.xY,hc,Out.xY,ih,Out.xY,List.flatMap_cons]
def cV(x:List Int):Bool:=decide (x.length=6)&&x.all fun d=>decide (0<=d)&&decide (d<=9)
theorem Dg(l:List Bool):ug (l.map PyData.bool)=some l:=by
 induction l with
 |nil=>rfl
 |cons b l ih=>rw[aqI,ug,ih];rfl
theorem V4(M:Mo)(x:List Int)(h:x.length<=1000):tK M [aM x]=.ok (.bool (cV x)):=by
 have key:=gR (tg:=aF 1) (te:=VL (lE rP rP (qC (.int 0)) (ao 1) (qC cQ))) (M:=M) (ρ:=[some (.dat (aM x)),none]) PyData.int (fun d=>.bool (decide (0<=d)&&decide (d<=9))) x fun d _=>⟨[some (.dat (aM x)),some (.dat (.int d))],by simp,by
  by_cases h0:0<=d <;> simp[h0,cQ]⟩
 have ha:O7 (.list (x.map fun d=>PyData.bool (decide (0<=d)&&decide (d<=9))))=.ok (.bool (x.all fun d=>decide (0<=d)&&decide (d<=9))):=by
  have e:(x.map fun d=>PyData.bool (decide (0<=d)&&decide (d<=9)))=(x.map fun d=>decide (0<=d)&&decide (d<=9)).map PyData.bool:=by rw[arf];rfl
  rw[e]
  show(match ug _ with
   |some bs=>Out.ok (PyData.bool (bs.all id))
   |none=>.bad)=_
  rw[Dg]
  simp[List.all_map,aq3]
 have hl:x.length<=50000:=by omega
 by_cases h6:x.length=6
 ·have h6':((x.length:Int)==6)=true:=by simp[h6]
  simp[tK,Ie,iI,key,hl,ha,cV,h6]
 ·have h6':¬(x.length:Int)=6:=by omega
  simp[tK,Ie,iI,cV,h6,h6']
theorem M8(M:Mo)(x:List Int)(h:x.length<=1000):qm M [aM x]=if cV x then .ok .none else .exc ⟨"BadEar",[]⟩:=by
 have:=V4 M x h
 cases hb:cV x <;> simp[qm,Hg,this,hb]
def pairD(p:Rw×Rw):Dat:=.tuple [Ear.rD p.1,Ear.rD p.2]
def lV(T:List Rw)(room:Int):List (Rw×Rw):=(T.mapIdx fun i r=>(i,r)).flatMap fun x=>((T.drop (x.1+1)).filter fun s=>!(x.2.1==s.1)&&decide (pA x.2.2 s.2<=room)).map fun s=>(x.2,s)
theorem aah(T:List Rw)(room:Int):(lV T room).length<=T.length * T.length:=by
 unfold lV
 rw[List.length_flatMap]
 have key:∀(l:List (Nat×Rw)),(l.map fun x=>(((T.drop (x.1+1)).filter fun s=>!(x.2.1==s.1)&&decide (pA x.2.2 s.2<=room)).map fun s=>(x.2,s)).length).sum<=l.length * T.length:=by
  intro l
  induction l with
  |nil=>simp
  |cons x l ih=>
   rw[aqI,List.sum_cons,aqS,Nat.add_mul,Nat.one_mul]
   have:(((T.drop (x.1+1)).filter fun s=>!(x.2.1==s.1)&&decide (pA x.2.2 s.2<=room)).map fun s=>(x.2,s)).length<=T.length:=by
    rw[aqO]
    refine aq7 (aqW _ _) ?_
    rw[arT]
    omega
   omega
 have:=key (T.mapIdx fun i r=>(i,r))
 rw[List.length_mapIdx]at this
 exact this
theorem Z6(M:Mo)(R:List Rw)(room:Int)(hR:uw R)(h:R.eraseDups.length<=76):uf M [.list (R.map Ear.rD),.int room]=.ok (.list ((lV (bU R) room).map pairD)):=by
 have ht:=J8 M R h
 have hl:(bU R).length<=76:=by rw[sU];exact h
 have hE:∀r∈bU R,r.2.length=6:=fun r hr=>hR r (lN.mp hr)
 generalize bU R=T at ht hl hE
 have he:rN 0 (T.map Ear.rD)=(T.mapIdx fun i r=>(i,r)).map fun(x:Nat×Rw)=>PyData.tuple [.int x.1,Ear.rD x.2]:=by
  unfold rN
  apply aq5
  intro i
  simp
  cases T[i]? <;> simp
 have key:=HW (tg:=bL [3,4]) (tg1:=aF 5) (tt:=jf) (it1:=dw (Cg (ao 2) (kE (aA dY (ao 3) (qC (.int 1)))) pq)) (vs1:=[5]) (tt1:=kY (bx (aA Cm (aA aU (ao 4) (qC (.int 0))) (aA aU (ao 5) (qC (.int 0))))) (jd (aY qN (ak (aA aU (ao 4) (qC (.int 1))) (ak (aA aU (ao 5) (qC (.int 1))) (ak (aq 1) au)))))) (te:=bA (ak (aq 4) (ak (aq 5) au))) (M:=M) (ρ:=[some (.dat (.list (R.map Ear.rD))),some (.dat (.int room)),some (.dat (.list (T.map Ear.rD))),none,none,none])
  (fun(x:Nat×Rw)=>PyData.tuple [.int x.1,Ear.rD x.2]) (fun x=>T.drop (x.1+1)) Ear.rD (fun x s=>!(x.2.1==s.1)&&decide (pA x.2.2 s.2<=room)) (fun x s=>pairD (x.2,s)) (T.mapIdx fun i r=>(i,r)) fun x hx=>⟨[some (.dat (.list (R.map Ear.rD))),some (.dat (.int room)),some (.dat (.list (T.map Ear.rD))),some (.dat (.int x.1)),some (.dat (Ear.rD x.2)),none],by simp,rfl,rfl,by
   have:=IV (T.map Ear.rD) (x.1+1)
   simp at this ⊢
   rw[this],fun s hs=>⟨[some (.dat (.list (R.map Ear.rD))),some (.dat (.int room)),some (.dat (.list (T.map Ear.rD))),some (.dat (.int x.1)),some (.dat (Ear.rD x.2)),some (.dat (Ear.rD s))],by simp,by
   obtain⟨i,hi,rfl⟩:=List.mem_mapIdx.mp hx
   have h1:=hE _ (arl hi)
   have h2:=hE s (List.mem_of_mem_drop hs)
   have:=Uu M (T[i]).2 s.2 room (by omega) (by omega)
   by_cases hz:(T[i]).1=s.1 <;> simp[Ear.rD,Ear.dT,this,hz],fun _=>by simp[pairD]⟩⟩
 have e2:((T.mapIdx fun i r=>(i,r)).flatMap fun x=>((T.drop (x.1+1)).filter fun s=>!(x.2.1==s.1)&&decide (pA x.2.2 s.2<=room)).map fun s=>pairD (x.2,s))=(lV T room).map pairD:=by
  unfold lV
  rw[List.map_flatMap]
  congr 1
  funext x
  rw[arf]
  rfl
 rw[e2]at key
 have hc:(lV T room).length<=50000:=by
  have:=aah T room
  have:T.length * T.length<=76 * 76:=Nat.mul_le_mul hl hl
  omega
 simp[uf,Ho,ht]
 rw[he]
 simp[key,hc]
def hdD(x:List Int×Int):Dat:=.tuple [aM x.1,.int x.2]
def Kz(d l:Int):Int:=(if 9 < d+l then 9 else d+l)+1
def Bb(d l:Int):List Int:=(List.range (Kz d l - d).toNat).map fun(i:Nat)=>d+(i:Int)
def stepT(d:Int)(H:List (List Int×Int)):List (List Int×Int):=H.flatMap fun x=>(Bb d x.2).map fun cut=>(x.1++[cut],x.2 - (cut - d))
structure Nh(k:Nat)(H:List (List Int×Int)):Prop where
 len:H.length<=4 ^ k
 left:∀x∈H,0<=x.2/\x.2<=3
 hd:∀x∈H,x.1.length=k/\∀y∈x.1,0<=y/\y<=9
theorem adi{d l:Int}(hl:0<=l/\l<=3):(Bb d l).length<=4:=by
 unfold Bb Kz
 simp
 split <;> omega
theorem UJ{d l y:Int}(h:y∈Bb d l):d<=y/\y<=d+l/\y<=9:=by
 unfold Bb Kz at h
 obtain⟨i,hi,rfl⟩:=aqR.mp h
 rw[List.mem_range]at hi
 split at hi <;> omega
theorem VH{k:Nat}{H:List (List Int×Int)}{d:Int}(i:Nh k H)(hd:0<=d/\d<=9):Nh (k+1) (stepT d H):=by
 refine⟨?_,fun x hx=>?_,fun x hx=>?_⟩
 ·have key:∀l:List (List Int×Int),(∀x∈l,0<=x.2/\x.2<=3)->(stepT d l).length<=l.length * 4:=by
   intro l
   induction l with
   |nil=>intro _;simp[stepT]
   |cons x l ih=>
    intro h
    have h1:=ih fun y hy=>h y (aqJ _ hy)
    have h2:=adi (d:=d) (h x aqK)
    unfold stepT at h1 ⊢
    rw[List.flatMap_cons,arj,aqO,aqS]
    omega
  have:=key H i.left
  have:=i.len
  rw[Nat.pow_succ]
  omega
 ·unfold stepT at hx
  obtain⟨y,hy,hx⟩:=List.mem_flatMap.mp hx
  obtain⟨c,hc,rfl⟩:=aqR.mp hx
  have:=UJ hc
  have:=i.left y hy
  show 0<=y.2 - (c - d)/\y.2 - (c - d)<=3
  omega
 ·unfold stepT at hx
  obtain⟨y,hy,hx⟩:=List.mem_flatMap.mp hx
  obtain⟨c,hc,rfl⟩:=aqR.mp hx
  have:=UJ hc
  obtain⟨h1,h2⟩:=i.hd y hy
  refine⟨by simp[h1],fun z hz=>?_⟩
  rcases aqU.mp hz with hz|hz
  ·exact h2 z hz
  ·rw[aqL.mp hz]
   omega
theorem aef(M:Mo)(e m:Option Cell)(he:yP [e,m]=true){k:Nat}{H:List (List Int×Int)}{d:Int}(i:Nh k H)(hk:k<=5)(hd:0<=d/\d<=9):Bv M [e,m,some (.dat (.list (H.map hdD))),some (.dat (.int d)),none,none,none]=.next [e,m,some (.dat (.list ((stepT d H).map hdD))),some (.dat (.int d)),none,none,none] M:=by
 have key:=HW (tg:=bL [4,5]) (tg1:=aF 6) (tt:=jf) (it1:=Bm (ao 3) (aA dY (aA Ij (aA dY (ao 3) (ao 5)) (qC cQ)) (qC (.int 1)))) (vs1:=[6]) (tt1:=jf) (te:=bA (ak (aA dY (ao 4) (bA (ak (aq 6) au))) (ak (aA lg (ao 5) (aA lg (ao 6) (ao 3))) au))) (M:=M) (ρ:=[e,m,some (.dat (.list (H.map hdD))),some (.dat (.int d)),none,none,none])
  hdD (fun x=>Bb d x.2) PyData.int (fun _ _=>true) (fun x c=>hdD (x.1++[c],x.2 - (c - d))) H fun x hx=>⟨[e,m,some (.dat (.list (H.map hdD))),some (.dat (.int d)),some (.dat (aM x.1)),some (.dat (.int x.2)),none],by simp[hdD],rfl,by
   simp[yP]at he ⊢
   exact he,by
   have hl:=i.left x hx
   have hz:Kz d x.2<=100000/\-100000<=Kz d x.2/\d<=100000/\-100000<=d:=by unfold Kz;split <;> omega
   have e1:gH d (Kz d x.2 - d).toNat=(Bb d x.2).map PyData.int:=by
    unfold gH Bb
    rw[arf]
    rfl
   have e2:(if 9 < d+x.2 then(9:Int) else d+x.2)+1=Kz d x.2:=rfl
   simp[cQ,e2,e1,hz],fun c hc=>⟨[e,m,some (.dat (.list (H.map hdD))),some (.dat (.int d)),some (.dat (aM x.1)),some (.dat (.int x.2)),some (.dat (.int c))],by simp,rfl,fun _=>by
   have h1:=(i.hd x hx).1
   have h2:x.1.length+1<=100000:=by omega
   simp[hdD,h2]⟩⟩
 have e2:(H.flatMap fun x=>((Bb d x.2).filter fun _=>true).map fun c=>hdD (x.1++[c],x.2 - (c - d)))=(stepT d H).map hdD:=by
  unfold stepT
  rw[List.map_flatMap]
  congr 1
  funext x
  rw[arM.mpr (fun _ _=>rfl),arf]
  rfl
 rw[e2]at key
 have hl:(stepT d H).length<=50000:=by
  have:=(VH i hd).len
  have:4 ^ (k+1)<=4 ^ 6:=Nat.pow_le_pow_right (by decide) (by omega)
  omega
 simp[Bv,key,hl]
theorem Ka(M:Mo)(e m:Option Cell)(he:yP [e,m]=true):∀(ear:List Int) (k:Nat) (H:List (List Int×Int)) (o:Option Cell),Nh k H->k+ear.length<=6->(∀d∈ear,0<=d/\d<=9)->
  (∃o',gQ (aF 3) Bv (ear.map PyData.int) M [e,m,some (.dat (.list (H.map hdD))),o,none,none,none]=.next [e,m,some (.dat (.list ((ear.foldl (fun H d=>stepT d H) H).map hdD))),o',none,none,none] M)/\Nh (k+ear.length) (ear.foldl (fun H d=>stepT d H) H)
 |[],k,H,o,i,_,_=>⟨⟨o,rfl⟩,i⟩
 |d::ear,k,H,o,i,hk,hd=>by
  rw[aqS]at hk
  have h1:=hd d aqK
  obtain⟨⟨o',ih⟩,i2⟩:=Ka M e m he ear (k+1) (stepT d H) (some (.dat (.int d))) (VH i h1) (by omega) fun y hy=>hd y (aqJ _ hy)
  refine⟨⟨o',?_⟩,?_⟩
  ·rw[aqI,jG (ρ1:=[e,m,some (.dat (.list (H.map hdD))),some (.dat (.int d)),none,none,none]) (by simp) (aef M e m he i (by omega) h1),ih]
   rfl
  ·rw[aqS,show k+(ear.length+1)=k+1+ear.length by omega]
   exact i2
def Dj(ear:List Int)(many:Int):List (List Int):=(ear.foldl (fun H d=>stepT d H) [([],many)]).map (·.1)
theorem adP{many:Int}(hm:0<=many/\many<=3):Nh 0 [([],many)]:=⟨by simp,fun x hx=>by rw[aqL.mp hx];exact hm,fun x hx=>by rw[aqL.mp hx];simp⟩
theorem NZ{ear:List Int}{many:Int}(he:cV ear=true)(hm:0<=many/\many<=3):Nh 6 (ear.foldl (fun H d=>stepT d H) [([],many)]):=by
 unfold cV at he
 rw[aqF,decide_eq_true_eq,aqZ]at he
 have:=(Ka [] none none rfl ear 0 [([],many)] none (adP hm) (by omega) fun d hd=>by simpa using he.2 d hd).2
 rw[he.1]at this
 exact this
theorem agv(M:Mo)(ear:List Int)(many:Int)(he:cV ear=true)(hm:0<=many/\many<=3):KR M [aM ear,.int many]=.ok (.list ((Dj ear many).map aM)):=by
 have he':=he
 unfold cV at he'
 rw[aqF,decide_eq_true_eq,aqZ]at he'
 obtain⟨⟨o',h1⟩,_⟩:=Ka M (some (.dat (aM ear))) (some (.dat (.int many))) rfl ear 0 [([],many)] none (adP hm) (by omega) fun d hd=>by simpa using he'.2 d hd
 have hi:=NZ he hm
 generalize hH:ear.foldl (fun H d=>stepT d H) [([],many)]=H at h1 hi
 have key:=gR (tg:=bL [4,5]) (te:=aq 4) (M:=M) (ρ:=[some (.dat (aM ear)),some (.dat (.int many)),some (.dat (.list (H.map hdD))),o',none,none,none]) hdD (fun x=>aM x.1) H fun x _=>⟨[some (.dat (aM ear)),some (.dat (.int many)),some (.dat (.list (H.map hdD))),o',some (.dat (aM x.1)),some (.dat (.int x.2)),none],by simp[hdD],by simp⟩
 have hl:H.length<=50000:=by
  have:=hi.len
  have:(4:Nat) ^ 6=4096:=by decide
  omega
 have h1':gQ (aF 3) Bv (ear.map PyData.int) M [some (.dat (aM ear)),some (.dat (.int many)),some (.dat (.list [.tuple [.tuple [],.int many]])),none,none,none,none]=_:=h1
 have key2:∀o2:Option Cell,dh (bL [4,5]) jf (aq 4) M [some (.dat (aM ear)),some (.dat (.int many)),some (.dat (.list (H.map hdD))),o2,none,none,none] (H.map hdD)=.ok (H.map fun x=>aM x.1):=fun o2=>gR (tg:=bL [4,5]) (te:=aq 4) (M:=M) (ρ:=[some (.dat (aM ear)),some (.dat (.int many)),some (.dat (.list (H.map hdD))),o2,none,none,none]) hdD (fun x=>aM x.1) H fun x _=>⟨[some (.dat (aM ear)),some (.dat (.int many)),some (.dat (.list (H.map hdD))),o2,some (.dat (aM x.1)),some (.dat (.int x.2)),none],by simp[hdD],by simp⟩
 simp[KR,Zz,h1',key2,hl,Dj,hH]
def N5(mark:List Int)(extra:Int):List (List Int):=(Dj mark extra).filter fun e=>zL mark e==extra
theorem Vn{ear:List Int}{many:Int}(he:cV ear=true)(hm:0<=many/\many<=3){x:List Int}(h:x∈Dj ear many):cV x=true:=by
 obtain⟨y,hy,rfl⟩:=aqR.mp h
 obtain⟨h1,h2⟩:=(NZ he hm).hd y hy
 unfold cV
 rw[aqF,decide_eq_true_eq,aqZ]
 exact⟨h1,fun d hd=>by simpa using h2 d hd⟩
theorem aen{ear:List Int}{many:Int}(he:cV ear=true)(hm:0<=many/\many<=3):(Dj ear many).length<=4096:=by
 unfold Dj
 rw[aqO]
 exact(NZ he hm).len
theorem YT(M:Mo)(mark:List Int)(extra:Int)(he:cV mark=true)(hm:0<=extra/\extra<=3):uR M [aM mark,.int extra]=.ok (.list ((N5 mark extra).map aM)):=by
 have h1:=agv M mark extra he hm
 have hl:=aen he hm
 have h6:mark.length<=1000:=by
  unfold cV at he
  rw[aqF,decide_eq_true_eq]at he
  omega
 have key:=gU (tg:=aF 2) (tt:=bx (aA bZ (aY tY (ak (aq 0) (ak (aq 2) au))) (ao 1))) (te:=aq 2) (M:=M) (ρ:=[some (.dat (aM mark)),some (.dat (.int extra)),none]) aM (fun e=>zL mark e==extra) aM (Dj mark extra) fun x _=>⟨[some (.dat (aM mark)),some (.dat (.int extra)),some (.dat (aM x))],by simp,by
  have:=Ow M mark x h6
  simp[this],fun _=>by simp⟩
 have hl2:(Dj mark extra).length<=50000:=by omega
 simp[uR,Ed,h1,key,hl2,N5]
def Bj(R:List Rw)(room:Int)(e:List Int):Bool:=!(R.any fun r=>decide (pA e r.2<=room))
theorem Xy(l:List Bool):Oq (.list (l.map PyData.bool))=.ok (.bool (l.any id)):=by
 show(match ug (l.map PyData.bool) with
  |some bs=>Out.ok (PyData.bool (bs.any id))
  |none=>.bad)=_
 rw[Dg]
theorem abz(M:Mo)(R:List Rw)(room:Int)(hR:uw R)(hl:R.length<=50000)(mk:List Int)(x:Int)(e:List Int)(he:e.length=6) :
  jQ M [some (.dat (aM mk)),some (.dat (.int x)),some (.dat (.list (R.map Ear.rD))),some (.dat (.int room)),some (.dat (aM e)),none,none]=if Bj R room e then .ret (aM e) M else .next [some (.dat (aM mk)),some (.dat (.int x)),some (.dat (.list (R.map Ear.rD))),some (.dat (.int room)),some (.dat (aM e)),none,none] M:=by
 have key:=gR (tg:=bL [5,6]) (te:=aY qN (ak (aq 4) (ak (aq 6) (ak (aq 3) au)))) (M:=M) (ρ:=[some (.dat (aM mk)),some (.dat (.int x)),some (.dat (.list (R.map Ear.rD))),some (.dat (.int room)),some (.dat (aM e)),none,none]) Ear.rD (fun r=>.bool (decide (pA e r.2<=room))) R fun r hr=>⟨[some (.dat (aM mk)),some (.dat (.int x)),some (.dat (.list (R.map Ear.rD))),some (.dat (.int room)),some (.dat (aM e)),some (.dat (.int r.1)),some (.dat (aM r.2))],by simp[Ear.rD,Ear.dT],by
  have:=Uu M e r.2 room (by omega) (by rw[hR r hr];decide)
  simp[this]⟩
 have ha:=Xy (R.map fun r=>decide (pA e r.2<=room))
 rw[arf]at ha
 simp only[aq3,arS]at ha
 cases hf:Bj R room e <;> simp[jQ,key,hl,ha] <;> simp[Bj]at hf <;> simpa using hf
theorem Ph(M:Mo)(R:List Rw)(room:Int)(hR:uw R)(hl:R.length<=50000)(mk:List Int)(x:Int):∀(es:List (List Int)) (o:Option Cell),(∀e∈es,e.length=6)->
  match es.find? (Bj R room) with
   |some e=>gQ (aF 4) jQ (es.map aM) M [some (.dat (aM mk)),some (.dat (.int x)),some (.dat (.list (R.map Ear.rD))),some (.dat (.int room)),o,none,none]=.ret (aM e) M
   |none=>∃ρ',gQ (aF 4) jQ (es.map aM) M [some (.dat (aM mk)),some (.dat (.int x)),some (.dat (.list (R.map Ear.rD))),some (.dat (.int room)),o,none,none]=.next ρ' M
 |[],o,_=>⟨_,rfl⟩
 |e::es,o,he=>by
  have h1:=abz M R room hR hl mk x e (he e aqK)
  have ih:=Ph M R room hR hl mk x es (some (.dat (aM e))) fun y hy=>he y (aqJ _ hy)
  rw[List.find?_cons]
  cases hf:Bj R room e with
  |true=>
   rw[hf,if_pos rfl]at h1
   show gQ _ _ _ _ _=_
   rw[aqI,gQ]
   simp[h1]
  |false=>
   rw[hf,if_neg (by decide)]at h1
   have e1:gQ (aF 4) jQ ((e::es).map aM) M [some (.dat (aM mk)),some (.dat (.int x)),some (.dat (.list (R.map Ear.rD))),some (.dat (.int room)),o,none,none]=gQ (aF 4) jQ (es.map aM) M [some (.dat (aM mk)),some (.dat (.int x)),some (.dat (.list (R.map Ear.rD))),some (.dat (.int room)),some (.dat (aM e)),none,none]:=by
    rw[aqI,jG (by simp) h1]
   rw[e1]
   exact ih
theorem Wn(M:Mo)(mark:List Int)(extra:Int)(R:List Rw)(room:Int)(he:cV mark=true)(hm:0<=extra/\extra<=3)(hR:uw R)(hl:R.length<=50000):o9 M [aM mark,.int extra,.list (R.map Ear.rD),.int room]=match (N5 mark extra).find? (Bj R room) with
  |some e=>.ok (aM e)
  |none=>.exc ⟨"NoneFree",[]⟩:=by
 have h1:=YT M mark extra he hm
 have h2:=Ph M R room hR hl mark extra (N5 mark extra) none fun e h=>by
  have:=Vn he hm (aq1.mp h).1
  unfold cV at this
  rw[aqF,decide_eq_true_eq]at this
  exact this.1
 cases hf:(N5 mark extra).find? (Bj R room) with
 |some e=>
  rw[hf]at h2
  simp[o9,wL,h1,h2]
 |none=>
  rw[hf]at h2
  obtain⟨ρ',h2⟩:=h2
  simp[o9,wL,h1,h2]
@[simp]theorem amj (L:Lay) (c:aK):(aN L c).cls="Commons":=rfl
theorem any_keys(y:Int)(l:List Int):((l.map fun o=>(PyData.int o,PyData.bool true)).any fun p=>PyData.eqv p.1 (.int y))=decide (y∈l):=by
 have:=any_ints y l
 rw[arS]at this ⊢
 exact this
section
variable{M:Mo}{L:Lay}{c:aK}(a:At M L c)
include a
theorem lB(o:Int):jw M [ob L.c,.int o]=if o∈c.own then .ok .none else .exc ⟨"NoOwner",[]⟩:=by
 have hc:=a.hc
 have hk:=any_keys o c.own
 simp only[arS,aq3]at hk
 by_cases h:o∈c.own
 ·rw[decide_eq_true h]at hk
  rw[if_pos h]
  simp[jw,lH,hc,aN,aq3,hk]
  rw[if_neg (fun z=>z o h rfl)]
 ·rw[decide_eq_false h]at hk
  rw[if_neg h]
  simp[jw,lH,hc,aN,aq3,hk]
  have hz:∀x:Int,x∈c.own->¬x=o:=fun x hx e=>h (e ▸ hx)
  rw[if_pos hz]
theorem zN(i:cZ c)(x:Int):pF M [ob L.c,.int x]=if Vg c x then .ok (.int (roomOf c x)) else .exc ⟨"NoGround",[]⟩:=by
 have hc:=a.hc
 obtain⟨n,m,hg⟩:=a.hg
 have h1:=agW a i x
 by_cases h:Vg c x
 ·rw[if_pos h]at h1 ⊢
  simp[pF,tM,hc,aN,hg,cY,rH,h1]
 ·rw[if_neg h]at h1 ⊢
  simp[pF,tM,hc,aN,hg,cY,rH,h1]
theorem zV(i:cZ c)(x:Int):j5 M [ob L.c,.int x]=if Vg c x then .ok (lI (bD c x)) else .exc ⟨"NoGround",[]⟩:=by
 have hc:=a.hc
 obtain⟨n,m,hg⟩:=a.hg
 have h1:=uX a i x
 by_cases h:Vg c x
 ·rw[if_pos h]at h1 ⊢
  simp[j5,oA,hc,aN,hg,cY,bB,h1]
 ·rw[if_neg h]at h1 ⊢
  simp[j5,oA,hc,aN,hg,cY,bB,h1]
theorem ado:qp M [ob L.c]=.ok (lI c.own):=by
 have hc:=a.hc
 simp[qp,vK,hc,aN,aq3]
theorem qL(few:c.held.length<=50000)(o g:Int):lG M [ob L.c,.int o,.int g]=if bM c o g=[] then .exc ⟨"NoRight",[]⟩ else .ok .none:=by
 have hc:=a.hc
 have hr:=a.hr
 have h1:=Xo a few o g
 by_cases h:bM c o g=[] <;> simp[lG,ql,hc,aN,hr,mW,rA,h1,h]
theorem zW(few:c.held.length<=50000)(o g:Int){mk:List Int}{r:List (List Int)}(h:bM c o g=mk::r):lK M [ob L.c,.int o,.int g]=.ok (aM mk):=by
 have hc:=a.hc
 have hr:=a.hr
 have h1:=Je a few o g
 rw[h]at h1
 simp[lK,qD,hc,aN,hr,mW,cJ,h1]
end
def inR(c:aK)(near:List Int):List Rw:=(c.held.filter fun r=>decide (r.2.1∈near)).map fun r=>(r.1,r.2.2)
def ZD(lo:Int)(x:Nat×Nat×dH):Bool:=x.2.2.sd.due.isSome&&!(((x.1:Int)+1)==lo)
def Nm(L:Lay)(c:aK)(lo:Int)(near:List Int):List Rw:=(((bW L c).filter fun x=>decide (x.2.2.sd.g∈near)&&x.2.2.sd.al).filter (ZD lo)).map fun x=>(x.2.2.sd.o,x.2.2.sd.due.getD [])
def eY(L:Lay)(c:aK)(lo x:Int):List Rw:=inR c (bD c x)++Nm L c lo (bD c x)
section
variable{M:Mo}{L:Lay}{c:aK}(a:At M L c)
include a
theorem DP(i:cZ c)(few:c.held.length<=20000)(fewb:c.bs.length<=20000)(lo x:Int)(h76:(eY L c lo x).eraseDups.length<=76):iz M [ob L.c,.int lo,.int x]=if Vg c x then .ok (.list ((bU (eY L c lo x)).map Ear.rD)) else .exc ⟨"NoGround",[]⟩:=by
 have hc:=a.hc
 have hr:=a.hr
 obtain⟨n,hh⟩:=a.hh
 have h1:=zV a i x
 by_cases h:Vg c x
 ·rw[if_pos h]at h1 ⊢
  have h2:=QD a (by omega:c.bs.length<=50000) (bD c x)
  have h3:=V8 a (by omega:c.held.length<=50000) (bD c x)
  have h4:=J8 M (eY L c lo x) h76
  have hl:((bW L c).filter fun y=>decide (y.2.2.sd.g∈bD c x)&&y.2.2.sd.al).length<=20000:=aq7 (aqW _ _) (by rw[a.len'];exact fewb)
  have hl2:((bW L c).filter fun y=>decide (y.2.2.sd.g∈bD c x)&&y.2.2.sd.al).length<=50000:=by omega
  have key:=gU (tg:=bL [5,6]) (tt:=kY (bx (xP true .none (bJ "due" (ao 6)))) (bx (aA Cm (ao 5) (ao 1)))) (te:=bA (ak (gq "owner" (ao 6)) (ak (gq "due" (ao 6)) au))) (M:=M) (ρ:=[some (.dat (ob L.c)),some (.dat (.int lo)),some (.dat (.int x)),some (.dat (lI (bD c x))),none,none,none]) nb (ZD lo) (fun y=>Ear.rD (y.2.2.sd.o,y.2.2.sd.due.getD [])) ((bW L c).filter fun y=>decide (y.2.2.sd.g∈bD c x)&&y.2.2.sd.al) fun y hy=>⟨[some (.dat (ob L.c)),some (.dat (.int lo)),some (.dat (.int x)),some (.dat (lI (bD c x))),none,some (.dat (.int ((y.1:Int)+1))),some (.dat (ob y.2.1))],by simp[nb],by
   obtain⟨n',hb⟩:=a.hb' (aq1.mp hy).1
   cases hd:y.2.2.sd.due <;> simp[hb,iB,hd,mX,ZD,oO],fun hp=>by
   obtain⟨n',hb⟩:=a.hb' (aq1.mp hy).1
   cases hd:y.2.2.sd.due with
   |none=>simp[ZD,hd]at hp
   |some e=>simp[hb,iB,hd,mX,Ear.rD,Ear.dT]⟩
  have e1:(c.held.filter fun r=>decide (r.2.1∈bD c x)).map (fun r=>Ear.rD (r.1,r.2.2))=(inR c (bD c x)).map Ear.rD:=by
   unfold inR
   rw[arf]
   rfl
  have e2:(((bW L c).filter fun y=>decide (y.2.2.sd.g∈bD c x)&&y.2.2.sd.al).filter (ZD lo)).map (fun y=>Ear.rD (y.2.2.sd.o,y.2.2.sd.due.getD []))=(Nm L c lo (bD c x)).map Ear.rD:=by
   unfold Nm
   rw[arf]
   rfl
  rw[e1]at h3
  rw[e2]at key
  have z1:(inR c (bD c x)).length<=20000:=by
   unfold inR
   rw[aqO]
   exact aq7 (aqW _ _) few
  have z2:(Nm L c lo (bD c x)).length<=20000:=by
   unfold Nm
   rw[aqO]
   exact aq7 (aqW _ _) hl
  have z3:(inR c (bD c x)).length+(Nm L c lo (bD c x)).length<=100000:=by omega
  unfold eY at h4 ⊢
  rw[ara]at h4
  simp[iz,jV,hc,aN,bQ,h1,hh,dB,jh,h2,hr,mW,pX,h3]
  simp[key,hl2,z3,h4,hc,aN,hr,mW,h3]
 ·rw[if_neg h]at h1 ⊢
  simp[iz,jV,hc,aN,bQ,h1]
end
def eE(b:dH):Dat:=.tuple [.int b.sd.o,.int b.sd.g,mX b.sd.due,aM b.sd.ear,.bool b.sd.al,.int b.mo,.tuple (b.fi.dat::b.en.map En.dat)]
theorem ahj{M:Mo}{h n:Nat}{b:dH}(hb:M[h]?=some (iB n b)):wZ M [ob h]=.ok (eE b):=by
 have h1:=ZR hb
 simp[wZ,Bt,hb,lO,h1]
 simp[iB,Sd.dat,eE]
def XC(c:aK)(k:Nat):Dat:=.tuple [.int (TF c ((k:Int)+1)),aM (bD c ((k:Int)+1))]
def jX(c:aK):Dat:=.tuple [lI c.own,.list ((List.range c.al.length).map (XC c)),.list (c.held.map gM),.list (c.bs.map eE)]
section
variable{M:Mo}{L:Lay}{c:aK}(a:At M L c)
include a
theorem ahB(i:cZ c)(few:c.held.length<=20000)(fewb:c.bs.length<=20000):pN M [ob L.c]=.ok (jX c):=by
 have hc:=a.hc
 have hr:=a.hr
 obtain⟨n,m,hg⟩:=a.hg
 obtain⟨n1,hh⟩:=a.hh
 have h1:=abj a
 have h2:=ado a
 have h3:=aan a (by omega:c.held.length<=50000)
 have hf:=i.few
 have k1:=gR (tg:=aF 3) (te:=bA (ak (aP dO (bJ "grounds" (ao 0)) (ak (aq 3) au)) (ak (fH mF (aP bQ (ao 0) (ak (aq 3) au))) au))) (M:=M) (ρ:=[some (.dat (ob L.c)),none,none,none,none]) (fun(k:Nat)=>PyData.int (1+(k:Int))) (XC c) (List.range c.al.length) fun k hk=>⟨[some (.dat (ob L.c)),none,none,some (.dat (.int ((k:Int)+1))),none],by simp[Int.add_comm],by
  rw[List.mem_range]at hk
  have hv:Vg c ((k:Int)+1):=by constructor <;> omega
  have g1:=JD a ((k:Int)+1)
  have g2:=zV a i ((k:Int)+1)
  rw[if_pos hv]at g1 g2
  simp[hc,aN,hg,cY,dO,bQ,g1,g2,XC]⟩
 have hl:=a.len'
 have k2:=fun(o1:Option Cell)=>gR (tg:=aF 4) (te:=aP uZ (ao 4) au) (M:=M) (ρ:=[some (.dat (ob L.c)),o1,none,none,none]) (fun(x:Nat×Nat×dH)=>ob x.2.1) (fun x=>eE x.2.2) (bW L c) fun x hx=>⟨[some (.dat (ob L.c)),o1,none,none,some (.dat (ob x.2.1))],by simp,by
  obtain⟨n',hb⟩:=a.hb' hx
  have:=ahj hb
  simp[hb,uZ,this]⟩
 have e1:(bW L c).map (fun x=>ob x.2.1)=L.bs.map ob:=by
  unfold bW
  apply aq5
  intro j
  simp only[aqQ,arp]
  by_cases hj:j < L.bs.length
  ·have hz:(L.bs.zip c.bs)[j]?=some (L.bs[j],c.bs[j]'(by rw[←a.len];exact hj)):=by
    rw[arA]
    exact⟨aqH hj,aqH _⟩
   rw[hz,aqH hj]
   rfl
  ·rw[aq8 (by omega:L.bs.length<=j),aq8 (by rw[List.length_zip];omega)]
   rfl
 have e2:(bW L c).map (fun x=>eE x.2.2)=c.bs.map eE:=by
  unfold bW
  apply aq5
  intro j
  simp only[aqQ,arp]
  by_cases hj:j < c.bs.length
  ·have hz:(L.bs.zip c.bs)[j]?=some (L.bs[j]'(by rw[a.len];exact hj),c.bs[j]):=by
    rw[arA]
    exact⟨aqH _,aqH hj⟩
   rw[hz,aqH hj]
   rfl
  ·rw[aq8 (by omega:c.bs.length<=j),aq8 (by rw[List.length_zip];omega)]
   rfl
 simp only[e1,e2]at k2
 have r1:gH 1 c.al.length=(List.range c.al.length).map fun(k:Nat)=>PyData.int (1+(k:Int)):=rfl
 have z1:(c.al.length:Int)+1<=100000:=by omega
 have z2 : -100000<=(c.al.length:Int)+1:=by omega
 have z3:c.al.length<=50000:=by omega
 have z4:L.bs.length<=50000:=by rw[a.len];omega
 simp[pN,xU,hc,aN,hg,cY,eG,h1,z1,z2,r1,k1,z3]
 simp[hc,aN,hh,dB,hr,mW,k2,z4,uL,sE,h2,h3,jX]
end
section
variable{M:Mo}{L:Lay}{c:aK}(a:At M L c)
include a
theorem yV(i:cZ c)(few:c.held.length<=20000)(fewb:c.bs.length<=20000)(x:Int)(h76:(eY L c 0 x).eraseDups.length<=76):jY M [ob L.c,.int x]=if Vg c x then .ok (.list ((bU (eY L c 0 x)).map Ear.rD)) else .exc ⟨"NoGround",[]⟩:=by
 have hc:=a.hc
 have h1:=DP a i few fewb 0 x h76
 by_cases h:Vg c x
 ·rw[if_pos h]at h1 ⊢
  simp[jY,oE,hc,cX,h1]
 ·rw[if_neg h]at h1 ⊢
  simp[jY,oE,hc,cX,h1]
def ajl(o:Int)(e:List Int)(R:List Rw)(room:Int):Out Dat:=match zR o e R room with
 |[]=>.ok .none
 |r::_=>.exc ⟨"Clash",[("ear",aM (jM e r.2)),("others",Ear.rD r),("ones",Ear.rD (o,e))]⟩
omit a in
theorem ae4{T:List Rw}(h:Ear.UW T):T.Nodup:=by
 unfold Ear.UW at h
 unfold List.Nodup
 exact h.imp fun {x y} z e=>by
  subst e
  exact List.lt_irrefl _ z
theorem JB(ho:∀o∈c.own,o<=c.count)(few:c.own.length<=20000):∃M',ig M [ob L.c]=.ok (.int (c.count+1)) M'/\At M' L { c with count:=c.count+1,own:=c.own++[c.count+1] }:=by
 have hc:=a.hc
 have hl:∀i,(M.set L.c i)[L.c]?=some i:=fun i=>by rw[bF hc,if_pos rfl]
 have hk:=any_keys (c.count+1) c.own
 have hn:¬(c.count+1)∈c.own:=fun z=>by have:=ho _ z;omega
 rw[decide_eq_false hn]at hk
 have hz:∀x∈c.own,¬x=c.count+1:=fun x hx e=>hn (e ▸ hx)
 have f2:c.own.length < 100000:=by omega
 refine⟨_,?_,a.setC⟩
 simp only[arS,aq3]at hk
 have hd:(c.own.any fun x=>x==c.count+1)=false:=by
  rw[List.any_eq_false]
  intro x hx
  simpa using hz x hx
 simp[ig,rC,hc,aN,hl,jU,f2,aq3,hd]
end
theorem Yz{α:Type}[BEq α][LawfulBEq α](l:List α):l.eraseDups.length<=l.length:=by
 induction hn:l.length using Nat.strongRecOn generalizing l with
 |_ n ih=>
  cases l with
  |nil=>simp
  |cons a r=>
   rw[arL]
   simp only[aqS]at hn ⊢
   have hl:(r.filter fun b=>!b==a).length<=r.length:=aqW _ _
   have:=ih _ (by omega) (r.filter fun b=>!b==a) rfl
   omega
theorem Xr{S:List Rw}(h:S.eraseDups.length<=76):(bU S).eraseDups.length<=76:=aq7 (Yz _) (by rw[sU];exact h)
theorem za{S:List Rw}(h:uw S):uw (bU S):=fun r hr=>h r (lN.mp hr)
section
variable{M:Mo}{L:Lay}{c:aK}(a:At M L c)
include a
theorem Wf(i:cZ c)(few:c.held.length<=20000)(fewb:c.bs.length<=20000)(o x:Int)(e:List Int)(he:e.length=6)(hv:Vg c x)(h76:(eY L c 0 x).eraseDups.length<=76)(hE:uw (eY L c 0 x)):gA M [ob L.c,.int o,aM e,.int x]=ajl o e (bU (eY L c 0 x)) (roomOf c x):=by
 have hc:=a.hc
 have h1:=yV a i few fewb x h76
 have h2:=zN a i x
 rw[if_pos hv]at h1 h2
 have h3:=MN M o e (bU (eY L c 0 x)) (roomOf c x) he (za hE) (Xr h76)
 unfold ajl
 cases hb:zR o e (bU (eY L c 0 x)) (roomOf c x) with
 |nil=>
  rw[hb]at h3
  simp[gA,lM,hc,cD,bY,h1,h2,h3]
 |cons r rs=>
  rw[hb]at h3
  simp[gA,lM,hc,cD,bY,h1,h2,h3]
end
section
variable{M:Mo}{L:Lay}{c:aK}(a:At M L c)
include a
def G4(L:Lay)(c:aK)(x y:Int):List Rw:=bU (eY L c 0 x)++bU (eY L c 0 y)
def vH(c:aK)(x y:Int):Int:=if roomOf c y > roomOf c x then roomOf c y else roomOf c x
theorem aac(i:cZ c)(few:c.held.length<=20000)(fewb:c.bs.length<=20000)(x y:Int)(hx:Vg c x)(hy:Vg c y)(h1:(eY L c 0 x).eraseDups.length<=76)(h2:(eY L c 0 y).eraseDups.length<=76)(h3:(G4 L c x y).eraseDups.length<=76)(e1:uw (eY L c 0 x))(e2:uw (eY L c 0 y)):j8 M [ob L.c,.int x,.int y]=.ok (.list ((lV (bU (G4 L c x y)) (vH c x y)).map pairD)):=by
 have hc:=a.hc
 have s1:=yV a i few fewb x h1
 have s2:=yV a i few fewb y h2
 have r1:=zN a i x
 have r2:=zN a i y
 rw[if_pos hx]at s1 r1
 rw[if_pos hy]at s2 r2
 have hE:uw (G4 L c x y):=fun r hr=>by
  rcases aqU.mp hr with hr|hr
  ·exact za e1 r hr
  ·exact za e2 r hr
 have k:=Z6 M (G4 L c x y) (vH c x y) hE h3
 have l1:(bU (eY L c 0 x)).length<=76:=by rw[sU];exact h1
 have l2:(bU (eY L c 0 y)).length<=76:=by rw[sU];exact h2
 have l3:(bU (eY L c 0 x)).length+(bU (eY L c 0 y)).length<=100000:=by omega
 have k':uf M [.list ((bU (eY L c 0 x)).map Ear.rD++(bU (eY L c 0 y)).map Ear.rD),.int (if roomOf c y > roomOf c x then roomOf c y else roomOf c x)]=.ok (.list ((lV (bU (G4 L c x y)) (vH c x y)).map pairD)):=by
  rw[←ara]
  exact k
 simp[j8,tH,hc,cD,bY,s1,s2,r1,r2,l3]
 simp at k'
 exact k' ▸ (by simp[k'])
end
def acj(c:aK)(lo:Int)(near:List Int):List Rw:=((c.bs.mapIdx fun i b=>(i,b)).filter fun x=>(x.2.sd.due.isSome&&!(((x.1:Int)+1)==lo))&&(decide (x.2.sd.g∈near)&&x.2.sd.al)).map fun x=>(x.2.sd.o,x.2.sd.due.getD [])
def fO(c:aK)(lo x:Int):List Rw:=inR c (bD c x)++acj c lo (bD c x)
theorem Kg{M:Mo}{L:Lay}{c:aK}(a:At M L c):(bW L c).map (fun x=>(x.1,x.2.2))=c.bs.mapIdx fun i b=>(i,b):=by
 unfold bW
 apply aq5
 intro j
 simp only[aqQ,arp]
 by_cases hj:j < c.bs.length
 ·have hz:(L.bs.zip c.bs)[j]?=some (L.bs[j]'(by rw[a.len];exact hj),c.bs[j]):=by
   rw[arA]
   exact⟨aqH _,aqH hj⟩
  rw[hz,aqH hj]
  rfl
 ·rw[aq8 (by omega:c.bs.length<=j),aq8 (by rw[List.length_zip];omega)]
  rfl
theorem jO{M:Mo}{L:Lay}{c:aK}(a:At M L c)(lo x:Int):eY L c lo x=fO c lo x:=by
 unfold eY fO Nm acj
 rw[←Kg a,List.filter_map,arf,arP]
 rfl
inductive bH where
 |owner|ground (x:Int)|enrol (o g:Int) (m:List Int)|leave (o g:Int)|bring (o g:Int) (e:List Int)|bear (k:Int)|cut (k:Int)|tear (k p:Int)|sell (k o:Int)|move (k g:Int)|die (k:Int)|yQ (x y:Int)|part (x:Int)|pass (e h:Int)|heir (e g x:Int)
def bH.dat:bH->Dat
 |.owner=>.tuple [.str "owner"]
 |.ground x=>.tuple [.str "ground",.int x]
 |.enrol o g m=>.tuple [.str "enrol",.int o,.int g,aM m]
 |.leave o g=>.tuple [.str "leave",.int o,.int g]
 |.bring o g m=>.tuple [.str "bring",.int o,.int g,aM m]
 |.bear k=>.tuple [.str "bear",.int k]
 |.cut k=>.tuple [.str "cut",.int k]
 |.tear k p=>.tuple [.str "tear",.int k,.int p]
 |.sell k o=>.tuple [.str "sell",.int k,.int o]
 |.move k g=>.tuple [.str "move",.int k,.int g]
 |.die k=>.tuple [.str "die",.int k]
 |.yQ x y=>.tuple [.str "unite",.int x,.int y]
 |.part x=>.tuple [.str "part",.int x]
 |.pass e h=>.tuple [.str "pass",.int e,.int h]
 |.heir e g x=>.tuple [.str "heir",.int e,.int g,.int x]
inductive Res where
 |ok (d:Dat) (c:aK)|no (x:dJ)
def Gg(o:Int)(e:List Int)(r:Rw):dJ:=⟨"Clash",[("ear",aM (jM e r.2)),("others",Ear.rD r),("ones",Ear.rD (o,e))]⟩
def firstM(c:aK)(o g:Int):List Int:=(bM c o g).headD []
def Ac(o:Int)(e:List Int)(R:List Rw)(room:Int)(r:Res):Res:=match zR o e (bU R) room with
 |[]=>r
 |x::_=>.no (Gg o e x)
def GZ(c:aK)(x y:Int):List Rw:=bU (fO c 0 x)++bU (fO c 0 y)
def rQ(c:aK)(x:Int):List Int:=(bD c x).filter fun y=>!(y==x)
def QS(c:aK)(e:Int):List Int:=((c.bs.mapIdx fun i b=>(i,b)).filter fun x=>(x.2.sd.o==e)&&x.2.sd.al).map fun x=>(x.1:Int)+1
def W3(o g:Int)(b:dH):Bool:=(decide (b.sd.g∈[g])&&b.sd.al)&&(b.sd.o==o)
def qX(c:aK)(k:Int)(f:dH->Res):Res:=match bk c k with
 |none=>.no ⟨"NoBeast",[]⟩
 |some b=>if b.sd.al=true then f b else .no ⟨"Dead",[]⟩
def markB(c:aK)(k:Int)(f:dH->List Int->Res):Res:=qX c k fun b=>match b.sd.due with
 |none=>.no ⟨"Unmarked",[]⟩
 |some e=>f b e
def yr(c:aK)(k o g:Int):aK:=nZ (fun x=>yW k x&&x.sd.al) (.followed o g) c
def tD(c:aK)(o:Int)(r:Res):Res:=if o∈c.own then r else .no ⟨"NoOwner",[]⟩
def wu(c:aK)(g:Int)(r:Res):Res:=if Vg c g then r else .no ⟨"NoGround",[]⟩
def JX(e:List Int)(r:Res):Res:=if cV e=true then r else .no ⟨"BadEar",[]⟩
def nH(c:aK)(o g:Int)(r:Res):Res:=if bM c o g=[] then .no ⟨"NoRight",[]⟩ else r
def cA(c:aK):bH->Res
 |.owner=>.ok (.int (c.count+1)) { c with count:=c.count+1,own:=c.own++[c.count+1] }
 |.ground x=>if 0<=x/\x<=9 then .ok (.int (c.al.length+1)) { c with al:=c.al++[x],ci:=c.ci++[[(c.al.length:Int)+1]] } else .no ⟨"BadAllowance",[]⟩
 |.enrol o g m=>tD c o <|wu c g <|JX m <|if m=[0,0,0,0,0,0] then .no ⟨"Bare",[]⟩ else if m∈bM c o g then .no ⟨"HasRight",[]⟩ else Ac o m (fO c 0 g) (roomOf c g) (.ok .none { c with held:=c.held++[(o,g,m)] })
 |.leave o g=>tD c o <|wu c g <|nH c o g <|if c.bs.any (W3 o g)=true then .no ⟨"StillThere",[]⟩ else .ok (.list ((bM c o g).map aM)) { c with held:=dropped c o g }
 |.bring o g e=>tD c o <|wu c g <|JX e <|nH c o g <|.ok (.int (c.bs.length+1)) { c with bs:=c.bs++[Ei (.brought o g e)] }
 |.bear k=>markB c k fun b _=>.ok (.int (c.bs.length+1)) { c with bs:=c.bs++[Ei (.born k b.sd.o b.sd.g)] }
 | .cut k=>qX c k fun b=>Ac b.sd.o (jM b.sd.ear (firstM c b.sd.o b.sd.g)) (fO c 0 b.sd.g) (roomOf c b.sd.g) (.ok (aM (jM b.sd.ear (firstM c b.sd.o b.sd.g))) (eX c (k - 1).toNat (.cut (jM b.sd.ear (firstM c b.sd.o b.sd.g)))))
 |.tear k p=>qX c k fun b=>if 0<=p/\p < 6 then(if 9<=b.sd.ear.getD p.toNat 0 then .no ⟨"Deepest",[]⟩ else .ok (aM (nO b.sd.ear p.toNat)) (eX c (k - 1).toNat (.torn p.toNat))) else .no ⟨"NoPlace",[]⟩
 |.sell k o=>markB c k fun b _=>tD c o <|if b.sd.o=o then .no ⟨"SameOwner",[]⟩ else nH c o b.sd.g <| Ac o (jM b.sd.ear (firstM c o b.sd.g)) (fO c k b.sd.g) (roomOf c b.sd.g) (.ok (aM (jM b.sd.ear (firstM c o b.sd.g))) (yr (eX c (k - 1).toNat (.sold o (jM b.sd.ear (firstM c o b.sd.g)))) k o b.sd.g))
 |.move k g=>markB c k fun b e=>wu c g <|if b.sd.g=g then .no ⟨"SameGround",[]⟩ else nH c b.sd.o g <|Ac b.sd.o e (fO c 0 g) (roomOf c g) (.ok (.int b.sd.g) (yr (eX c (k - 1).toNat (.moved g)) k b.sd.o g))
 |.die k=>qX c k fun _=>.ok .none (eX c (k - 1).toNat .died)
 |.yQ x y=>wu c y <|wu c x <|if y∈bD c x then .no ⟨"Together",[]⟩ else match lV (bU (GZ c x y)) (vH c x y) with
  |p::_=>.no (Gg p.1.1 p.1.2 p.2)
  |[]=>.ok (lI (sortI (bD c x++bD c y))) { c with ci:=encl c.ci (sortI (bD c x++bD c y)) }
 |.part x=>wu c x <|if rQ c x=[] then .no ⟨"Alone",[]⟩ else .ok (lI (rQ c x)) { c with ci:=encl (encl c.ci [x]) (rQ c x) }
 |.pass e h=>tD c e <|tD c h <|if e=h then .no ⟨"SameOwner",[]⟩ else .ok (lI (QS c e)) { nZ (fun b=>(b.sd.o==e)&&b.sd.al) (.passed h) c with own:=c.own.filter (fun o=>!(o==e)),held:=handed c e h }
 | .heir e g x=>tD c e <| wu c g <| if 1<=x/\x<=3 then nH c e g (match (N5 (firstM c e g) x).find? (Bj (bU (fO c 0 g)) (roomOf c g)) with
  |some mk=>.ok (.tuple [.int (c.count+1),aM mk]) { c with count:=c.count+1,own:=c.own++[c.count+1],held:=c.held++[(c.count+1,g,mk)] }
  |none=>.no ⟨"NoneFree",[]⟩) else .no ⟨"BadExtra",[]⟩
structure Inv(n s:Nat)(c:aK):Prop where
 gr:cZ c
 al:c.al.length<=n
 cnt:0<=c.count/\c.count<=n
 own:∀o∈c.own,1<=o/\o<=c.count
 NQ:c.own.Nodup
 ownL:c.own.length<=n
 held:c.held.Nodup
 hL:c.held.length+c.bs.length<=s
 hE:∀r∈c.held,r.1∈c.own/\Vg c r.2.1/\cV r.2.2=true
 ear:∀b∈c.bs,cV b.sd.ear=true
 due:∀b∈c.bs,∀e,b.sd.due=some e->cV e=true
 en:∀b∈c.bs,b.en.length<=2 * n
 rt:∀b∈c.bs,b.sd.al=true->∃m,(b.sd.o,b.sd.g,m)∈c.held
theorem fY{x:List Int}(h:cV x=true):x.length=6:=by
 unfold cV at h
 simp at h
 exact h.1
theorem Cv{α:Type}[BEq α][LawfulBEq α]:∀{l S:List α},l.Nodup->(∀x∈l,x∈S)->l.length<=S.length
 |[],_,_,_=>by simp
 |x::l,S,nd,h=>by
  rw[arB]at nd
  have hx:=h x aqK
  have:=Cv (l:=l) (S:=S.erase x) nd.2 fun y hy=>by
   have:y≠x:=fun z=>nd.1 (z ▸ hy)
   exact(List.mem_erase_of_ne this).mpr (h y (aqJ _ hy))
  rw[List.length_erase_of_mem hx]at this
  have:=List.length_pos_of_mem hx
  rw[aqS]
  omega
def Mj(c:aK):List Rw:=c.held.map (fun r=>(r.1,r.2.2))++c.bs.map fun b=>(b.sd.o,b.sd.due.getD [])
theorem aaW{c:aK}{near:List Int}{r:Rw}(h:r∈inR c near):∃g,(r.1,g,r.2)∈c.held/\g∈near:=by
 unfold inR at h
 obtain⟨x,h1,rfl⟩:=aqR.mp h
 obtain⟨h2,h3⟩:=aq1.mp h1
 exact⟨x.2.1,h2,by simpa using h3⟩
theorem Yw{c:aK}{lo:Int}{near:List Int}{r:Rw}(h:r∈acj c lo near):∃(i:Nat) (b:dH),c.bs[i]?=some b/\b.sd.o=r.1/\b.sd.due=some r.2/\b.sd.al=true/\b.sd.g∈near/\(i:Int)+1≠lo:=by
 unfold acj at h
 obtain⟨x,h1,rfl⟩:=aqR.mp h
 obtain⟨h2,h3⟩:=aq1.mp h1
 obtain⟨i,hi,rfl⟩:=List.mem_mapIdx.mp h2
 simp only[aqF,decide_eq_true_eq,aqY,beq_eq_false_iff_ne]at h3
 obtain⟨⟨h4,h5⟩,h6,h7⟩:=h3
 refine⟨i,c.bs[i],aqH hi,rfl,?_,h7,h6,h5⟩
 cases hd:c.bs[i].sd.due with
 |none=>simp[hd]at h4
 |some e=>rfl
theorem pY{c:aK}{lo x:Int}{r:Rw}(h:r∈fO c lo x):r∈Mj c:=by
 unfold Mj
 rcases aqU.mp h with h|h
 ·obtain⟨g,h1,_⟩:=aaW h
  exact ark _ (aqR.mpr ⟨_,h1,rfl⟩)
 ·obtain⟨i,b,h1,h2,h3,_⟩:=Yw h
  refine arG _ (aqR.mpr ⟨b,aqM h1,?_⟩)
  rw[h2,h3]
  rfl
section
variable{n s:Nat}{c:aK}(I:Inv n s c)
include I
theorem Inv.few{R:List Rw}(h:∀r∈R,r∈Mj c):R.eraseDups.length<=s:=by
 have h1:=Cv (l:=bU R) (S:=Mj c) (ae4 (YF R)) fun r hr=>h r (lN.mp hr)
 rw[sU]at h1
 have:(Mj c).length=c.held.length+c.bs.length:=by simp[Mj]
 have:=I.hL
 omega
theorem Inv.Oi{lo x:Int}:uw (fO c lo x):=fun r hr=>by
 rcases aqU.mp hr with h|h
 ·obtain⟨g,h1,_⟩:=aaW h
  exact fY (I.hE _ h1).2.2
 ·obtain⟨i,b,h1,h2,h3,_⟩:=Yw h
  exact fY (I.due b (aqM h1) _ h3)
theorem Inv.bi:Ke (2 * n) c:=⟨fun b hb=>fY (I.ear b hb),I.en⟩
theorem Inv.mk1{o g:Int}(h:bM c o g≠[]):∃r,bM c o g=firstM c o g::r/\cV (firstM c o g)=true:=by
 cases hm:bM c o g with
 |nil=>exact absurd hm h
 |cons m r=>
  refine⟨r,by simp[firstM,hm],?_⟩
  have:m∈bM c o g:=by rw[hm];exact aqK
  unfold bM at this
  obtain⟨x,h1,rfl⟩:=aqR.mp this
  have e:firstM c o g=x.2.2:=by simp[firstM,hm]
  rw[e]
  exact(I.hE x (aq1.mp h1).1).2.2
end
theorem Dd{c:aK}{o g:Int}{m:List Int}:m∈bM c o g↔(o,g,m)∈c.held:=by
 unfold bM
 rw[aqR]
 constructor
 ·rintro⟨⟨x,y,z⟩,h,rfl⟩
  obtain⟨h1,h2⟩:=aq1.mp h
  simp at h2
  obtain⟨rfl,rfl⟩:=h2
  exact h1
 ·intro h
  exact⟨_,aq1.mpr ⟨h,by simp⟩,rfl⟩
theorem yE{c:aK}{o g:Int}:bM c o g≠[]↔∃m,(o,g,m)∈c.held:=by
 constructor
 ·intro h
  obtain⟨m,hm⟩:=List.exists_mem_of_ne_nil _ h
  exact⟨m,Dd.mp hm⟩
 ·rintro⟨m,hm⟩ z
  have:=Dd.mpr hm
  rw[z]at this
  cases this
theorem Du{x y:List Int}(hx:cV x=true)(hy:cV y=true):cV (jM x y)=true:=by
 have lx:=fY hx
 have ly:=fY hy
 unfold cV at *
 simp only[aqF,decide_eq_true_eq,aqZ]at *
 refine⟨by simp[jM];omega,fun d hd=>?_⟩
 unfold jM at hd
 obtain⟨p,hp,rfl⟩:=aqR.mp hd
 have h1:=hx.2 p.1 (List.of_mem_zip hp).1
 have h2:=hy.2 p.2 (List.of_mem_zip hp).2
 split <;> omega
theorem Gj(n:Nat)(x:List Int):okd (n+1) (aM x)=true:=by
 show okd (n+1) (.tuple (x.map PyData.int))=true
 rw[okd]
 exact V2 n x
theorem ahh(x y:List Int):bZ (aM x) (aM y)=.ok (.bool (decide (x=y))):=by
 show(Out.when (okd 12 (aM x)&&okd 12 (aM y)) (.ok (PyData.eqv (aM x) (aM y)))).bind _=_
 rw[Gj 11,Gj 11,YS,yS]
 rfl
theorem ahl(neg:Bool)(m:List Int)(ms:List (List Int)):inD neg (aM m) (.list (ms.map aM))=.ok (.bool (neg ^^ decide (m∈ms))):=by
 have h1:mY 12 (ms.map aM)=true:=HF.mpr fun d hd=>by
  obtain⟨x,_,rfl⟩:=aqR.mp hd
  exact Gj 11 x
 have h2:((ms.map aM).any fun z=>PyData.eqv z (aM m))=decide (m∈ms):=by
  induction ms with
  |nil=>simp
  |cons x ms ih=>
   have h1':mY 12 (ms.map aM)=true:=HF.mpr fun d hd=>by
    obtain⟨x,_,rfl⟩:=aqR.mp hd
    exact Gj 11 x
   rw[aqI,arD,ih h1',YS,yS]
   by_cases h:x=m
   ·simp[h]
   ·have:¬m=x:=fun z=>h z.symm
    simp[h,this]
 show(Out.when (okd 12 (aM m)&&mY 12 (ms.map aM)) (.ok ((ms.map aM).any fun z=>PyData.eqv z (aM m)))).bind _=_
 rw[h1,h2,Gj 11]
 rfl
def Sp(M:Mo)(L:Lay)(o:aZ Dat):Res->Prop
 |.ok d c'=>∃M' bs,o=.ok d M'/\At M' { L with bs:=bs } c'
 |.no x=>o=.exc x M
section
variable{M:Mo}{L:Lay}{c:aK}(a:At M L c){n s:Nat}(I:Inv n s c)(hs:s<=76)(hn:n<=199)
include a I hn
theorem ag9:Sp M L (ig M [ob L.c]) (cA c .owner):=by
 obtain⟨M',h1,h2⟩:=JB a (fun o ho=>(I.own o ho).2) (by have:=I.ownL;omega)
 exact⟨M',L.bs,h1,h2⟩
theorem aeA(x:Int):Sp M L (gD M [ob L.c,.int x]) (cA c (.ground x)):=by
 have hc:=a.hc
 obtain⟨n,m,hg⟩:=a.hg
 have hl:=I.al
 have h1:=Wy a I.gr (by omega) x
 simp only[cA]
 by_cases h:0<=x/\x<=9
 ·rw[if_pos h]at h1 ⊢
  obtain⟨M',h1,h2⟩:=h1
  exact⟨M',L.bs,by simp[gD,lJ,hc,aN,hg,cY,kW,h1],h2⟩
 ·rw[if_neg h]at h1 ⊢
  show _=_
  simp[gD,lJ,hc,aN,hg,cY,kW,h1]
include hs
omit hn
theorem Yn(o x:Int)(e:List Int)(he:e.length=6)(hv:Vg c x):gA M [ob L.c,.int o,aM e,.int x]=match zR o e (bU (fO c 0 x)) (roomOf c x) with
  |[]=>.ok .none
  |r::_=>.exc (Gg o e r):=by
 have h1:=I.hL
 have h76:=I.few (R:=fO c 0 x) fun r hr=>pY hr
 have:=Wf a I.gr (by omega) (by omega) o x e he hv (by rw[jO a];omega) (by rw[jO a];exact I.Oi)
 rw[jO a]at this
 exact this
theorem ahk(o g:Int)(m:List Int)(hm:m.length<=1000):Sp M L (dU M [ob L.c,.int o,.int g,aM m]) (cA c (.enrol o g m)):=by
 have hc:=a.hc
 have hr:=a.hr
 obtain⟨n1,m1,hg⟩:=a.hg
 have hL:=I.hL
 have h1:=lB a o
 have h2:=vR a g
 have h3:=M8 M m hm
 have h4:=Je a (by omega) o g
 simp only[cA,tD,wu,JX,Ac]
 by_cases e1:o∈c.own
 rotate_left
 ·rw[if_neg e1]at h1 ⊢
  show _=_
  simp[dU,fQ,hc,aN,aC,h1]
 rw[if_pos e1]at h1 ⊢
 by_cases e2:Vg c g
 rotate_left
 ·rw[if_neg e2]at h2 ⊢
  show _=_
  simp[dU,fQ,hc,aN,aC,h1,hg,cY,aG,h2]
 rw[if_pos e2]at h2 ⊢
 by_cases e3:cV m=true
 rotate_left
 ·rw[if_neg e3]at h3 ⊢
  show _=_
  simp[dU,fQ,hc,aN,aC,h1,hg,cY,aG,h2,h3]
 rw[if_pos e3]at h3 ⊢
 have h5:bZ (.tuple (m.map PyData.int)) (.tuple [.int 0,.int 0,.int 0,.int 0,.int 0,.int 0])=_:=ahh m [0,0,0,0,0,0]
 by_cases e4:m=[0,0,0,0,0,0]
 ·rw[if_pos e4]
  rw[decide_eq_true e4]at h5
  show _=_
  simp[dU,fQ,hc,aN,aC,h1,hg,cY,aG,h2,h3,jr]
  simp[h5]
 rw[if_neg e4]
 rw[decide_eq_false e4]at h5
 have h6:=ahl false m (bM c o g)
 by_cases e5:m∈bM c o g
 ·rw[if_pos e5]
  rw[decide_eq_true e5]at h6
  simp at h6
  show _=_
  simp[dU,fQ,hc,aN,aC,h1,hg,cY,aG,h2,h3,jr,h5,hr,mW,cJ,h4,h6]
 rw[if_neg e5]
 rw[decide_eq_false e5]at h6
 simp at h6
 have h7:=Yn a I hs o g m (fY e3) e2
 cases e6:zR o m (bU (fO c 0 g)) (roomOf c g) with
 |cons r rs=>
  rw[e6]at h7
  show _=_
  simp[dU,fQ,hc,aN,aC,h1,hg,cY,aG,h2,h3,jr,h5,hr,mW,cJ,h4,h6,bT,h7]
 |nil=>
  rw[e6]at h7
  have h8:=Lg a (by omega) o g m
  rw[if_neg fun z=>e5 (Dd.mpr z)]at h8
  obtain⟨M',h8,h9⟩:=h8
  refine⟨M',L.bs,?_,h9⟩
  simp[dU,fQ,hc,aN,aC,h1,hg,cY,aG,h2,h3,jr,h5,hr,mW,cJ,h4,h6,bT,h7,iy,h8]
end
@[simp]theorem aqz (n:Nat) (b:dH):List.lookup ("owner" : Str) (iB n b).fs=some (.dat (.int b.sd.o)):=by simp[iB]
@[simp]theorem aqA (n:Nat) (b:dH):List.lookup ("ground" : Str) (iB n b).fs=some (.dat (.int b.sd.g)):=by simp[iB]
@[simp]theorem aqC (n:Nat) (b:dH):List.lookup ("due" : Str) (iB n b).fs=some (.dat (mX b.sd.due)):=by simp[iB]
@[simp]theorem aqB (n:Nat) (b:dH):List.lookup ("ear" : Str) (iB n b).fs=some (.dat (aM b.sd.ear)):=by simp[iB]
@[simp]theorem aqv (n:Nat) (b:dH):List.lookup ("alive" : Str) (iB n b).fs=some (.dat (.bool b.sd.al)):=by simp[iB]
section
variable{M:Mo}{L:Lay}{c:aK}(a:At M L c){n s:Nat}(I:Inv n s c)(hs:s<=76)
include a I hs
theorem ag1(o g:Int):Sp M L (fP M [ob L.c,.int o,.int g]) (cA c (.leave o g)):=by
 have hc:=a.hc
 have hr:=a.hr
 obtain⟨n1,m1,hg⟩:=a.hg
 obtain⟨n2,hh⟩:=a.hh
 have hL:=I.hL
 have h1:=lB a o
 have h2:=vR a g
 have h3:=qL a (by omega) o g
 simp only[cA,tD,wu,nH]
 by_cases e1:o∈c.own
 rotate_left
 ·rw[if_neg e1]at h1 ⊢
  show _=_
  simp[fP,jk,hc,aN,aC,h1]
 rw[if_pos e1]at h1 ⊢
 by_cases e2:Vg c g
 rotate_left
 ·rw[if_neg e2]at h2 ⊢
  show _=_
  simp[fP,jk,hc,aN,aC,h1,hg,cY,aG,h2]
 rw[if_pos e2]at h2 ⊢
 by_cases e3:bM c o g=[]
 ·rw[if_pos e3]at h3 ⊢
  show _=_
  simp[fP,jk,hc,aN,aC,h1,hg,cY,aG,h2,aJ,h3]
 rw[if_neg e3]at h3 ⊢
 have h4:pJ M [ob L.h,.list [.int g]]=_:=QD a (by omega) [g]
 have key:=gR (tg:=bL [3,4]) (te:=aA bZ (bJ "owner" (ao 4)) (ao 1)) (M:=M) (ρ:=[some (.dat (ob L.c)),some (.dat (.int o)),some (.dat (.int g)),none,none]) nb (fun x=>.bool (x.2.2.sd.o==o)) ((bW L c).filter fun x=>decide (x.2.2.sd.g∈[g])&&x.2.2.sd.al) fun x hx=>⟨[some (.dat (ob L.c)),some (.dat (.int o)),some (.dat (.int g)),some (.dat (.int ((x.1:Int)+1))),some (.dat (ob x.2.1))],by simp[nb],by
  obtain⟨n,hb⟩:=a.hb' (aq1.mp hx).1
  simp[hb,iB]⟩
 have hl:((bW L c).filter fun x=>decide (x.2.2.sd.g∈[g])&&x.2.2.sd.al).length<=50000:=aq7 (aqW _ _) (by rw[a.len'];omega)
 have h5:Oq (.list (((bW L c).filter fun x=>decide (x.2.2.sd.g∈[g])&&x.2.2.sd.al).map fun x=>PyData.bool (x.2.2.sd.o==o)))=.ok (.bool (c.bs.any (W3 o g))):=by
  have e:(((bW L c).filter fun x=>decide (x.2.2.sd.g∈[g])&&x.2.2.sd.al).map fun x=>PyData.bool (x.2.2.sd.o==o))=(((bW L c).filter fun x=>decide (x.2.2.sd.g∈[g])&&x.2.2.sd.al).map fun x=>(x.2.2.sd.o==o)).map PyData.bool:=by rw[arf];rfl
  rw[e,Xy,arS,List.any_filter]
  have e2:=Kg a
  have e3:(bW L c).map (fun x=>x.2.2)=c.bs:=by
   have:(bW L c).map (fun x=>x.2.2)=((bW L c).map (fun x=>(x.1,x.2.2))).map (·.2):=by rw[arf];rfl
   rw[this,e2]
   apply aq5
   intro i
   simp
   cases c.bs[i]? <;> rfl
  conv=>rhs;rw[←e3]
  rw[arS]
  rfl
 cases e4:c.bs.any (W3 o g) with
 |true=>
  rw[e4]at h5
  show _=_
  simp[fP,jk,hc,aN,aC,h1,hg,cY,aG,h2,aJ,h3,hh,dB,jh]
  simp at h4 key h5 hl
  simp[h4,key,hl,h5]
 |false=>
  rw[e4]at h5
  have h6:=ag8 a (by omega) I.held o g
  rw[if_neg e3]at h6
  obtain⟨M',h6,h7⟩:=h6
  refine⟨M',L.bs,?_,h7⟩
  simp[fP,jk,hc,aN,aC,h1,hg,cY,aG,h2,aJ,h3,hh,dB,jh]
  simp at h4 key h5 hl
  simp[h4,key,hl,h5,hc,aN,hr,mW,yq,h6]
theorem ahq(o g:Int)(m:List Int)(hm:m.length<=1000):Sp M L (fW M [ob L.c,.int o,.int g,aM m]) (cA c (.bring o g m)):=by
 have hc:=a.hc
 have hr:=a.hr
 obtain⟨n1,m1,hg⟩:=a.hg
 obtain⟨n2,hh⟩:=a.hh
 have hL:=I.hL
 have h1:=lB a o
 have h2:=vR a g
 have h3:=M8 M m hm
 have h4:=qL a (by omega) o g
 simp only[cA,tD,wu,JX,nH]
 by_cases e1:o∈c.own
 rotate_left
 ·rw[if_neg e1]at h1 ⊢
  show _=_
  simp[fW,ji,hc,aN,aC,h1]
 rw[if_pos e1]at h1 ⊢
 by_cases e2:Vg c g
 rotate_left
 ·rw[if_neg e2]at h2 ⊢
  show _=_
  simp[fW,ji,hc,aN,aC,h1,hg,cY,aG,h2]
 rw[if_pos e2]at h2 ⊢
 by_cases e3:cV m=true
 rotate_left
 ·rw[if_neg e3]at h3 ⊢
  show _=_
  simp[fW,ji,hc,aN,aC,h1,hg,cY,aG,h2,h3]
 rw[if_pos e3]at h3 ⊢
 by_cases e4:bM c o g=[]
 ·rw[if_pos e4]at h4 ⊢
  show _=_
  simp[fW,ji,hc,aN,aC,h1,hg,cY,aG,h2,h3,aJ,h4]
 rw[if_neg e4]at h4 ⊢
 obtain⟨M',h,h5,h6⟩:=Kl a (by omega) (.brought o g m) (by omega)
 refine⟨M',L.bs++[h],?_,h6⟩
 simp[Fi.dat]at h5
 simp[fW,ji,hc,aN,aC,h1,hg,cY,aG,h2,h3,aJ,h4,hh,dB,jB,h5]
theorem aib(k:Int):Sp M L (iZ M [ob L.c,.int k]) (cA c (.bear k)):=by
 have hc:=a.hc
 obtain⟨n2,hh⟩:=a.hh
 have hL:=I.hL
 have h1:=Ku a (by omega) k
 simp only[cA,markB,qX]
 cases hk:bk c k with
 |none=>
  rw[hk]at h1
  show _=_
  simp[iZ,lU,hc,aN,hh,dB,bh,h1]
 |some b=>
  rw[hk]at h1
  obtain⟨_,_,_,_,n3,hb⟩:=qO a hk
  show Sp M L _ (if b.sd.al=true then _ else _)
  cases e1:b.sd.al with
  |false=>
   simp[e1]at h1
   show _=_
   simp[iZ,lU,hc,aN,hh,dB,bh,h1]
  |true=>
   simp[e1]at h1
   cases e2:b.sd.due with
   |none=>
    simp[e2]at h1
    show _=_
    simp[iZ,lU,hc,aN,hh,dB,bh,h1]
   |some e=>
    simp[e2]at h1
    simp only[if_true]
    obtain⟨M',h,h5,h6⟩:=Kl a (by omega) (.born k b.sd.o b.sd.g) (by omega)
    refine⟨M',L.bs++[h],?_,h6⟩
    simp[Fi.dat]at h5
    simp[iZ,lU,hc,aN,hh,dB,bh,h1,hb,iB,jB,h5]
theorem alp(k:Int)(hn:n<=1000):Sp M L (lu M [ob L.c,.int k]) (cA c (.die k)):=by
 have hc:=a.hc
 obtain⟨n2,hh⟩:=a.hh
 have hL:=I.hL
 have h1:=CG a (by omega) k
 simp only[cA,qX]
 cases hk:bk c k with
 |none=>
  rw[hk]at h1
  show _=_
  simp[lu,qH,hc,aN,hh,dB,bG,h1]
 |some b=>
  rw[hk]at h1
  obtain⟨_,_,h3,h4,n3,hb⟩:=qO a hk
  show Sp M L _ (if b.sd.al=true then _ else _)
  cases e1:b.sd.al with
  |false=>
   simp[e1]at h1
   show _=_
   simp[lu,qH,hc,aN,hh,dB,bG,h1]
  |true=>
   simp[e1]at h1
   have mem:=aqM h4
   simp only[if_true]
   have h5:=sG hb .died (by rw[fY (I.ear b mem)];decide) (by have:=I.en b mem;omega)
   refine⟨_,L.bs,?_,yD (n:=n3) (e:=.died) a h3 h4⟩
   simp[En.dat]at h5
   simp[lu,qH,hc,aN,hh,dB,bG,h1,hb,bK,h5,oF]
theorem adk(k p:Int)(hn:n<=1000):Sp M L (fD M [ob L.c,.int k,.int p]) (cA c (.tear k p)):=by
 have hc:=a.hc
 obtain⟨n2,hh⟩:=a.hh
 have hL:=I.hL
 have h1:=CG a (by omega) k
 simp only[cA,qX]
 cases hk:bk c k with
 |none=>
  rw[hk]at h1
  show _=_
  simp[fD,jc,hc,aN,hh,dB,bG,h1]
 |some b=>
  rw[hk]at h1
  obtain⟨_,_,h3,h4,n3,hb⟩:=qO a hk
  show Sp M L _ (if b.sd.al=true then _ else _)
  cases e1:b.sd.al with
  |false=>
   simp[e1]at h1
   show _=_
   simp[fD,jc,hc,aN,hh,dB,bG,h1]
  |true=>
   simp[e1]at h1
   have mem:=aqM h4
   have h6:=fY (I.ear b mem)
   simp only[if_true]
   by_cases e2:0<=p/\p < 6
   ·rw[if_pos e2]
    obtain⟨q,rfl⟩:∃q:Nat,p=q:=⟨p.toNat,by omega⟩
    have hq:q < 6:=by omega
    have hq2:q < b.sd.ear.length:=by omega
    have hq3:(q:Int) < 6:=by omega
    have h7:b.sd.ear[q]?.getD 0=b.sd.ear[q]:=by simp[hq2]
    simp only[Int.toNat_natCast,List.getD_eq_getElem?_getD,h7]
    have h5:=sG hb (.torn q) (by omega) (by have:=I.en b mem;omega)
    by_cases e3:9<=b.sd.ear[q]
    ·rw[if_pos e3]
     show _=_
     simp[fD,jc,hc,aN,hh,dB,bG,h1,hb,iB,iI,hq3,cQ,hq2,e3]
    ·rw[if_neg e3]
     refine⟨_,L.bs,?_,yD (n:=n3) (e:=.torn q) a h3 h4⟩
     simp[En.dat]at h5
     have hl:∀i,(M.set (Pr.hk L k) i)[Pr.hk L k]?=some i:=fun i=>by rw[bF hb,if_pos rfl]
     simp[fD,jc,hc,aN,hh,dB,bG,h1,hb,iI,hq3,cQ,bK,h5,hl,hq2,e3,oF,go]
   ·rw[if_neg e2]
    show _=_
    by_cases e3:0<=p
    ·have e4:¬p < 6:=fun z=>e2 ⟨e3,z⟩
     simp[fD,jc,hc,aN,hh,dB,bG,h1,iI,e3,e4]
    ·simp[fD,jc,hc,aN,hh,dB,bG,h1,iI,e3]
end
theorem Inv.alive{n s:Nat}{c:aK}(I:Inv n s c){b:dH}(h:b∈c.bs)(h2:b.sd.al=true):bM c b.sd.o b.sd.g≠[]/\Vg c b.sd.g/\b.sd.o∈c.own:=by
 obtain⟨m,hm⟩:=I.rt b h h2
 exact⟨yE.mpr ⟨m,hm⟩,(I.hE _ hm).2.1,(I.hE _ hm).1⟩
section
variable{M:Mo}{L:Lay}{c:aK}(a:At M L c){n s:Nat}(I:Inv n s c)(hs:s<=76)(hn:n<=1000)
include a I hs hn
theorem alK(k:Int):Sp M L (jF M [ob L.c,.int k]) (cA c (.cut k)):=by
 have hc:=a.hc
 obtain⟨n2,hh⟩:=a.hh
 have hL:=I.hL
 have h1:=CG a (by omega) k
 simp only[cA,qX,Ac]
 cases hk:bk c k with
 |none=>
  rw[hk]at h1
  show _=_
  simp[jF,mZ,hc,aN,hh,dB,bG,h1]
 |some b=>
  rw[hk]at h1
  obtain⟨_,_,h3,h4,n3,hb⟩:=qO a hk
  show Sp M L _ (if b.sd.al=true then _ else _)
  cases e1:b.sd.al with
  |false=>
   simp[e1]at h1
   show _=_
   simp[jF,mZ,hc,aN,hh,dB,bG,h1]
  |true=>
   simp[e1]at h1
   simp only[if_true]
   have mem:=aqM h4
   obtain⟨q1,q2,q3⟩:=I.alive mem e1
   obtain⟨r,q4,q5⟩:=I.mk1 q1
   have h6:=fY (I.ear b mem)
   have h7:=zW a (by omega) _ _ q4
   have h8:=HJ M b.sd.ear (firstM c b.sd.o b.sd.g) (by omega)
   have q6:=fY (Du (I.ear b mem) q5)
   generalize jM b.sd.ear (firstM c b.sd.o b.sd.g)=e at h8 q6 ⊢
   have h9:=Yn a I hs b.sd.o b.sd.g e q6 q2
   cases e2:zR b.sd.o e (bU (fO c 0 b.sd.g)) (roomOf c b.sd.g) with
   |cons r rs=>
    rw[e2]at h9
    show _=_
    simp[jF,mZ,hc,aN,hh,dB,bG,h1,hb,iB,bR,h7,h8,bT,h9]
   |nil=>
    rw[e2]at h9
    have h5:=sG hb (.cut e) (by omega) (by have:=I.en b mem;omega)
    refine⟨_,L.bs,?_,yD (n:=n3) (e:=.cut e) a h3 h4⟩
    simp[En.dat]at h5
    simp[jF,mZ,hc,aN,hh,dB,bG,h1,hb,bR,bK,h5,bT,h7,h8,h9,oF]
theorem aj6(x:Int):Sp M L (jT M [ob L.c,.int x]) (cA c (.part x)):=by
 have hc:=a.hc
 obtain⟨n1,m1,hg⟩:=a.hg
 have h1:=ada a I.gr x
 have e0:(bD c x).filter (fun y=>!(y==x))=rQ c x:=rfl
 rw[e0]at h1
 simp only[cA,wu]
 by_cases e1:Vg c x
 ·rw[if_pos e1]at h1 ⊢
  by_cases e2:rQ c x=[]
  ·rw[if_pos e2]at h1 ⊢
   show _=_
   simp[jT,pK,hc,aN,hg,cY,ou,h1]
  ·rw[if_neg e2]at h1 ⊢
   obtain⟨M',h1,h2⟩:=h1
   refine⟨M',L.bs,?_,h2⟩
   simp[jT,pK,hc,aN,hg,cY,ou,h1]
 ·rw[if_neg e1]at h1 ⊢
  show _=_
  simp[jT,pK,hc,aN,hg,cY,ou,h1]
theorem agn(x y:Int)(hx:Vg c x)(hy:Vg c y):j8 M [ob L.c,.int x,.int y]=.ok (.list ((lV (bU (GZ c x y)) (vH c x y)).map pairD)):=by
 have h1:=I.hL
 have f1:=I.few (R:=fO c 0 x) fun r hr=>pY hr
 have f2:=I.few (R:=fO c 0 y) fun r hr=>pY hr
 have f3:=I.few (R:=GZ c x y) fun r hr=>by
  rcases aqU.mp hr with h|h
  ·exact pY (lN.mp h)
  ·exact pY (lN.mp h)
 have e:G4 L c x y=GZ c x y:=by unfold G4 GZ;rw[jO a,jO a]
 have:=aac a I.gr (by omega) (by omega) x y hx hy (by rw[jO a];omega) (by rw[jO a];omega) (by rw[e];omega) (by rw[jO a];exact I.Oi) (by rw[jO a];exact I.Oi)
 rw[e]at this
 exact this
theorem ahc(x y:Int):Sp M L (fV M [ob L.c,.int x,.int y]) (cA c (.yQ x y)):=by
 have hc:=a.hc
 obtain⟨n1,m1,hg⟩:=a.hg
 have h1:=vR a y
 have h2:=zV a I.gr x
 simp only[cA,wu]
 by_cases e1:Vg c y
 rotate_left
 ·rw[if_neg e1]at h1 ⊢
  show _=_
  simp[fV,jg,hc,aN,hg,cY,aG,h1]
 rw[if_pos e1]at h1 ⊢
 by_cases e2:Vg c x
 rotate_left
 ·rw[if_neg e2]at h2 ⊢
  show _=_
  simp[fV,jg,hc,aN,hg,cY,aG,h1,bQ,h2]
 rw[if_pos e2]at h2 ⊢
 have h3:=FT false y (bD c x)
 have h4:=abt a I.gr x y e2 e1
 by_cases e3:y∈bD c x
 ·rw[if_pos e3]
  rw[decide_eq_true e3]at h3
  show _=_
  simp[fV,jg,hc,aN,hg,cY,aG,h1,bQ,h2,h3]
 rw[if_neg e3]at h4 ⊢
 rw[decide_eq_false e3]at h3
 have h5:=agn a I hs hn x y e2 e1
 have h6:∀p∈lV (bU (GZ c x y)) (vH c x y),p.1.2.length=6:=fun p hp=>by
  unfold lV at hp
  obtain⟨q,hq,hp⟩:=List.mem_flatMap.mp hp
  obtain⟨r,_,rfl⟩:=aqR.mp hp
  obtain⟨i,hi,rfl⟩:=List.mem_mapIdx.mp hq
  have hm:=lN.mp (arl hi)
  rcases aqU.mp hm with h|h
  ·exact I.Oi _ (lN.mp h)
  ·exact I.Oi _ (lN.mp h)
 cases e4:lV (bU (GZ c x y)) (vH c x y) with
 |cons p ps=>
  rw[e4]at h5 h6
  have h7:=HJ M p.1.2 p.2.2 (by have:=h6 p aqK;omega)
  show _=_
  simp[fV,jg,hc,aN,hg,cY,aG,h1,bQ,h2,h3,mO,h5]
  simp[pairD,Ear.rD,Ear.dT,h7,Gg]
 |nil=>
  rw[e4]at h5
  obtain⟨M',h4,h7⟩:=h4
  refine⟨M',L.bs,?_,h7⟩
  simp[fV,jg,hc,aN,hg,cY,aG,h1,bQ,h2,h3,mO,h5,vL,h4]
theorem aiQ(e g x:Int):Sp M L (cR M [ob L.c,.int e,.int g,.int x]) (cA c (.heir e g x)):=by
 have hc:=a.hc
 have hr:=a.hr
 obtain⟨n1,m1,hg⟩:=a.hg
 have hL:=I.hL
 have h1:=lB a e
 have h2:=vR a g
 have h3:=qL a (by omega) e g
 simp only[cA,tD,wu,nH]
 by_cases e1:e∈c.own
 rotate_left
 ·rw[if_neg e1]at h1 ⊢
  show _=_
  simp[cR,dI,hc,aN,aC,h1]
 rw[if_pos e1]at h1 ⊢
 by_cases e2:Vg c g
 rotate_left
 ·rw[if_neg e2]at h2 ⊢
  show _=_
  simp[cR,dI,hc,aN,aC,h1,hg,cY,aG,h2]
 rw[if_pos e2]at h2 ⊢
 by_cases e3:1<=x/\x<=3
 rotate_left
 ·rw[if_neg e3]
  show _=_
  by_cases e4:1<=x
  ·have e5:¬x<=3:=fun z=>e3 ⟨e4,z⟩
   simp[cR,dI,hc,aN,aC,h1,hg,cY,aG,h2,iQ,jZ,e4,e5]
  ·simp[cR,dI,hc,aN,aC,h1,hg,cY,aG,h2,iQ,jZ,e4]
 rw[if_pos e3]
 obtain⟨e4,e5⟩:=e3
 by_cases e6:bM c e g=[]
 ·rw[if_pos e6]at h3 ⊢
  show _=_
  simp[cR,dI,hc,aN,aC,h1,hg,cY,aG,h2,iQ,jZ,e4,e5,aJ,h3]
 rw[if_neg e6]at h3 ⊢
 obtain⟨r,q4,q5⟩:=I.mk1 e6
 have h7:=zW a (by omega) _ _ q4
 have f1:=I.few (R:=fO c 0 g) fun r hr=>pY hr
 have h8:=yV a I.gr (by omega) (by omega) g (by rw[jO a];omega)
 rw[if_pos e2,jO a]at h8
 have h9:=zN a I.gr g
 rw[if_pos e2]at h9
 have h10:=Wn M (firstM c e g) x (bU (fO c 0 g)) (roomOf c g) q5 ⟨by omega,e5⟩ (za I.Oi) (by rw[sU];omega)
 cases e7:(N5 (firstM c e g) x).find? (Bj (bU (fO c 0 g)) (roomOf c g)) with
 |none=>
  rw[e7]at h10
  show _=_
  simp[cR,dI,hc,aN,aC,h1,hg,cY,aG,h2,iQ,jZ,e4,e5,aJ,h3,bR,h7,cD,h8,bY,h9,h10]
 |some mk=>
  rw[e7]at h10
  obtain⟨M1,k1,a1⟩:=JB a (fun o ho=>(I.own o ho).2) (by have:=I.ownL;omega)
  have k2:=Lg a1 (by show c.held.length<=50000;omega) (c.count+1) g mk
  rw[if_neg (fun z=>by
   have:=(I.own _ (I.hE _ z).1).2
   simp at this
   omega)]at k2
  obtain⟨M2,k2,a2⟩:=k2
  have hc1:=a1.hc
  have hr1:=a1.hr
  refine⟨M2,L.bs,?_,a2⟩
  simp[cR,dI,hc,aN,aC,h1,hg,cY,aG,h2,iQ,jZ,e4,e5,aJ,h3,bR,h7,cD,h8,bY,h9,h10,gG,k1]
  simp[hc1,aN,hr1,mW,iy,k2]
end
section
variable{M:Mo}{L:Lay}{c:aK}(a:At M L c){n s:Nat}(I:Inv n s c)(hs:s<=76)(hn:n<=1000)
include a I hs hn
theorem ah1(k o:Int):Sp M L (dG M [ob L.c,.int k,.int o]) (cA c (.sell k o)):=by
 have hc:=a.hc
 obtain⟨n2,hh⟩:=a.hh
 have hL:=I.hL
 have h1:=Ku a (by omega) k
 have h2:=lB a o
 simp only[cA,markB,qX,Ac,tD,nH]
 cases hk:bk c k with
 |none=>
  rw[hk]at h1
  show _=_
  simp[dG,fB,hc,aN,hh,dB,bh,h1]
 |some b=>
  rw[hk]at h1
  obtain⟨k1,k2,h3,h4,n3,hb⟩:=qO a hk
  show Sp M L _ (if b.sd.al=true then _ else _)
  cases e1:b.sd.al with
  |false=>
   simp[e1]at h1
   show _=_
   simp[dG,fB,hc,aN,hh,dB,bh,h1]
  |true=>
   simp[e1]at h1
   simp only[if_true]
   cases e2:b.sd.due with
   |none=>
    simp[e2]at h1
    show _=_
    simp[dG,fB,hc,aN,hh,dB,bh,h1]
   |some e0=>
    simp[e2]at h1
    show Sp M L _ (if o∈c.own then _ else _)
    by_cases e3:o∈c.own
    rotate_left
    ·rw[if_neg e3]at h2 ⊢
     show _=_
     simp[dG,fB,hc,aN,hh,dB,bh,h1,aC,h2]
    rw[if_pos e3]at h2 ⊢
    by_cases e4:b.sd.o=o
    ·rw[if_pos e4]
     show _=_
     simp[dG,fB,hc,aN,hh,dB,bh,h1,aC,h2,hb,e4]
    rw[if_neg e4]
    have h5:=qL a (by omega) o b.sd.g
    by_cases e5:bM c o b.sd.g=[]
    ·rw[if_pos e5]at h5 ⊢
     show _=_
     simp[dG,fB,hc,aN,hh,dB,bh,h1,aC,h2,hb,e4,aJ,h5]
    rw[if_neg e5]at h5 ⊢
    have mem:=aqM h4
    obtain⟨q1,q2,q3⟩:=I.alive mem e1
    obtain⟨r,q4,q5⟩:=I.mk1 e5
    have h6:=fY (I.ear b mem)
    have h7:=zW a (by omega) _ _ q4
    have h8:=HJ M b.sd.ear (firstM c o b.sd.g) (by omega)
    have q6:=fY (Du (I.ear b mem) q5)
    generalize jM b.sd.ear (firstM c o b.sd.g)=e at h8 q6 ⊢
    have f1:=I.few (R:=fO c k b.sd.g) fun r hr=>pY hr
    have h9:=DP a I.gr (by omega) (by omega) k b.sd.g (by rw[jO a];omega)
    rw[if_pos q2,jO a]at h9
    have h10:=zN a I.gr b.sd.g
    rw[if_pos q2]at h10
    have h11:=MN M o e (bU (fO c k b.sd.g)) (roomOf c b.sd.g) q6 (za I.Oi) (Xr (by omega))
    cases e6:zR o e (bU (fO c k b.sd.g)) (roomOf c b.sd.g) with
    |cons r rs=>
     rw[e6]at h11
     show _=_
     simp[dG,fB,hc,aN,hh,dB,bh,h1,aC,h2,hb,e4,aJ,h5,bR,h7,h8,cX,h9,bY,h10,h11,Gg]
    |nil=>
     rw[e6]at h11
     have h12:=sG hb (.sold o e) (by omega) (by have:=I.en b mem;omega)
     have a1:=yD (n:=n3) (e:=.sold o e) a h3 h4
     have hk2:bk (eX c (k - 1).toNat (.sold o e)) k=some (oF b (.sold o e)):=by
      unfold bk
      rw[if_pos ⟨k1,by simpa [eX] using k2⟩,vC,if_pos rfl,h4]
      rfl
     obtain⟨M',h13,a2⟩:=Fe a1 (by simp[eX];omega) (I.bi.step _ _ q6) (by omega) k hk2
     have hc1:=a1.hc
     obtain⟨n4,hh1⟩:=a1.hh
     refine⟨M',L.bs,?_,a2⟩
     simp[En.dat]at h12
     simp only[oF]at h13 hc1 hh1
     simp[dG,fB,hc,aN,hh,dB,bh,h1,aC,h2,hb,e4,aJ,h5,bR,h7,h8,cX,h9,bY,h10,h11,bK,h12]
     simp[hc1,aN,hh1,dB,iw,h13]
theorem akm(k g:Int):Sp M L (dD M [ob L.c,.int k,.int g]) (cA c (.move k g)):=by
 have hc:=a.hc
 obtain⟨n2,hh⟩:=a.hh
 obtain⟨n5,m5,hg⟩:=a.hg
 have hL:=I.hL
 have h1:=Ku a (by omega) k
 have h2:=vR a g
 simp only[cA,markB,qX,Ac,wu,nH]
 cases hk:bk c k with
 |none=>
  rw[hk]at h1
  show _=_
  simp[dD,fG,hc,aN,hh,dB,bh,h1]
 |some b=>
  rw[hk]at h1
  obtain⟨k1,k2,h3,h4,n3,hb⟩:=qO a hk
  show Sp M L _ (if b.sd.al=true then _ else _)
  cases e1:b.sd.al with
  |false=>
   simp[e1]at h1
   show _=_
   simp[dD,fG,hc,aN,hh,dB,bh,h1]
  |true=>
   simp[e1]at h1
   simp only[if_true]
   cases e2:b.sd.due with
   |none=>
    simp[e2]at h1
    show _=_
    simp[dD,fG,hc,aN,hh,dB,bh,h1]
   |some e=>
    simp[e2]at h1
    show Sp M L _ (if Vg c g then _ else _)
    by_cases e3:Vg c g
    rotate_left
    ·rw[if_neg e3]at h2 ⊢
     show _=_
     simp[dD,fG,hc,aN,hh,dB,bh,h1,hg,cY,aG,h2]
    rw[if_pos e3]at h2 ⊢
    by_cases e4:b.sd.g=g
    ·rw[if_pos e4]
     show _=_
     simp[dD,fG,hc,aN,hh,dB,bh,h1,hg,cY,aG,h2,hb,e4]
    rw[if_neg e4]
    have h5:=qL a (by omega) b.sd.o g
    by_cases e5:bM c b.sd.o g=[]
    ·rw[if_pos e5]at h5 ⊢
     show _=_
     simp[dD,fG,hc,aN,hh,dB,bh,h1,hg,cY,aG,h2,hb,e4,aJ,h5]
    rw[if_neg e5]at h5 ⊢
    have mem:=aqM h4
    have h6:=fY (I.ear b mem)
    have q6:=fY (I.due b mem e e2)
    have h11:=Yn a I hs b.sd.o g e q6 e3
    cases e6:zR b.sd.o e (bU (fO c 0 g)) (roomOf c g) with
    |cons r rs=>
     rw[e6]at h11
     show _=_
     simp[dD,fG,hc,aN,hh,dB,bh,h1,hg,cY,aG,h2,hb,e4,aJ,h5,e2,mX,bT,h11]
    |nil=>
     rw[e6]at h11
     have h12:=sG hb (.moved g) (by omega) (by have:=I.en b mem;omega)
     have a1:=yD (n:=n3) (e:=.moved g) a h3 h4
     have hk2:bk (eX c (k - 1).toNat (.moved g)) k=some (oF b (.moved g)):=by
      unfold bk
      rw[if_pos ⟨k1,by simpa [eX] using k2⟩,vC,if_pos rfl,h4]
      rfl
     obtain⟨M',h13,a2⟩:=Fe a1 (by simp[eX];omega) (I.bi.step _ _ trivial) (by omega) k hk2
     have hc1:=a1.hc
     obtain⟨n4,hh1⟩:=a1.hh
     refine⟨M',L.bs,?_,a2⟩
     simp[En.dat]at h12
     simp only[oF]at h13 hc1 hh1
     simp[dD,fG,hc,aN,hh,dB,bh,h1,hg,cY,aG,h2,hb,e4,aJ,h5,e2,mX,bT,h11,bK,h12]
     simp[hc1,aN,hh1,dB,iw,h13]
theorem akn(e h:Int):Sp M L (fJ M [ob L.c,.int e,.int h]) (cA c (.pass e h)):=by
 have hc:=a.hc
 have hr:=a.hr
 have hL:=I.hL
 have h1:=lB a e
 have h2:=lB a h
 simp only[cA,tD]
 by_cases e1:e∈c.own
 rotate_left
 ·rw[if_neg e1]at h1 ⊢
  show _=_
  simp[fJ,jC,hc,aN,aC,h1]
 rw[if_pos e1]at h1 ⊢
 by_cases e2:h∈c.own
 rotate_left
 ·rw[if_neg e2]at h2 ⊢
  show _=_
  simp[fJ,jC,hc,aN,aC,h1,h2]
 rw[if_pos e2]at h2 ⊢
 by_cases e3:e=h
 ·rw[if_pos e3]
  show _=_
  simp[fJ,jC,hc,aN,aC,h1,h2,e3]
 rw[if_neg e3]
 obtain⟨M1,h3,a1⟩:=Zk a (by omega) e h
 have hc1:=a1.hc
 obtain⟨n1,hh1⟩:=a1.hh
 have h4:=aeC a1 (by show c.bs.length<=50000;omega) e
 have ehd:bW L { c with held:=handed c e h }=bW L c:=rfl
 rw[ehd]at h4
 generalize hX:((bW L c).filter fun x=>(x.2.2.sd.o==e)&&x.2.2.sd.al)=X at h4
 have hXl:X.length<=1000:=by
  rw[←hX]
  exact aq7 (aqW _ _) (by rw[a.len'];omega)
 have bi1:Ke (2 * n) { c with held:=handed c e h }:=⟨I.bi.ear,I.bi.en⟩
 obtain⟨ρ',M2,g1,g2,g3⟩:=OD (tg:=bL [4,5]) (body:=rF) (fun ρ=>∃x y,ρ=[some (.dat (ob L.c)),some (.dat (.int e)),some (.dat (.int h)),some (.dat (.list (X.map nb))),x,y])
  (fun i c1=>Ke (2 * n+i) c1/\c1.bs.length=c.bs.length) (.passed h) L 1000 X M1 { c with held:=handed c e h } [some (.dat (ob L.c)),some (.dat (.int e)),some (.dat (.int h)),some (.dat (.list (X.map nb))),none,none] 0 (by omega) a1 ⟨bi1,rfl⟩ ⟨none,none,rfl⟩ (fun M1 c1 ρ x i hi a1 p1 q1 hx=>by
   obtain⟨bi1,l1⟩:=p1
   obtain⟨x0,y0,rfl⟩:=q1
   rw[←hX]at hx
   obtain⟨z1,z2⟩:=DN (aq1.mp hx).1
   have hl:x.1 < c1.bs.length:=by rw[l1];exact(aqG.mp z2).1
   have z3:=aqH hl
   obtain⟨nx,hx1⟩:=a1.hb _ _ _ z1 z3
   have mem:=arl hl
   have hb:=sG hx1 (.passed h) (by rw[bi1.ear _ mem];decide) (by have:=bi1.en _ mem;omega)
   refine⟨[some (.dat (ob L.c)),some (.dat (.int e)),some (.dat (.int h)),some (.dat (.list (X.map nb))),some (.dat (.int ((x.1:Int)+1))),some (.dat (ob x.2.1))],[some (.dat (ob L.c)),some (.dat (.int e)),some (.dat (.int h)),some (.dat (.list (X.map nb))),some (.dat (.int ((x.1:Int)+1))),some (.dat (ob x.2.1))],_,by simp[nb],?_,⟨_,_,rfl⟩,yD (n:=nx) a1 z1 z3,bi1.step _ _ trivial,by simp[eX,l1]⟩
   have hb:lQ M1 [ob x.2.1,.tuple [.str "passed",.int h]]=_:=hb
   simp[rF,hx1,bK,hb,oF])
 obtain⟨x0,y0,rfl⟩:=g2
 have g4:uW X (.passed h) { c with held:=handed c e h }=nZ (fun x=>(x.sd.o==e)&&x.sd.al) (.passed h) { c with held:=handed c e h }:=by
  rw[←hX]
  exact Vo a1 (fun x=>(x.sd.o==e)&&x.sd.al) (.passed h)
 rw[g4]at g3
 have hc2:=g3.hc
 have hl:∀i,(M2.set L.c i)[L.c]?=some i:=fun i=>by rw[bF hc2,if_pos rfl]
 have hk:=any_keys e c.own
 rw[decide_eq_true e1]at hk
 have hf:((c.own.map fun o=>(PyData.int o,PyData.bool true)).filter fun p=>!PyData.eqv p.1 (.int e))=(c.own.filter fun o=>!(o==e)).map fun o=>(PyData.int o,PyData.bool true):=by
  rw[List.filter_map]
  congr 1
 have a3:=g3.setC (n:=c.count) (own:=c.own.filter fun o=>!(o==e))
 refine⟨_,L.bs,?_,a3⟩
 have key:=gR (tg:=bL [4,5]) (te:=aq 4) (M:=M2.set L.c (aN L { nZ (fun x=>(x.sd.o==e)&&x.sd.al) (.passed h) { c with held:=handed c e h } with count:=c.count,own:=c.own.filter fun o=>!(o==e) })) (ρ:=[some (.dat (ob L.c)),some (.dat (.int e)),some (.dat (.int h)),some (.dat (.list (X.map nb))),none,none]) nb (fun x=>.int ((x.1:Int)+1)) X fun x _=>⟨[some (.dat (ob L.c)),some (.dat (.int e)),some (.dat (.int h)),some (.dat (.list (X.map nb))),some (.dat (.int ((x.1:Int)+1))),some (.dat (ob x.2.1))],by simp[nb],by simp⟩
 have eo:(QS c e).map PyData.int=X.map fun x=>.int ((x.1:Int)+1):=by
  unfold QS
  rw[←Kg a,List.filter_map,arf,arf,←hX]
  rfl
 have eo:lI (QS c e)=.list (X.map fun x=>.int ((x.1:Int)+1)):=congrArg PyData.list eo
 have hX2:X.length<=50000:=by omega
 have f2:c.own.length<=100000:=by have:=I.ownL;omega
 rw[eo]
 simp[fJ,jC,hc,aN,aC,h1,h2,e3,hr,mW,rE,h3]
 simp[hc1,aN,hh1,dB,Ah,h4,g1]
 simp only[nZ]at hc2 key ⊢
 have hk':(c.own.any ((fun p=>PyData.eqv p.1 (.int e)) ∘ fun o=>(PyData.int o,PyData.bool true)))=true:=by
  rw[←arS]
  exact hk
 simp[hc2,aN,f2]
 rw[hk',hf]
 simp only[aN]at key
 simp[key,hX2]
end
theorem cZ.same{c c':aK}(i:cZ c)(h1:c'.al=c.al)(h2:c'.ci=c.ci):cZ c':=by
 cases c
 cases c'
 simp at h1 h2
 subst h1 h2
 exact⟨i.len,i.few,i.al,i.mem,i.own,i.up,i.one⟩
theorem cZ.lt{c:aK}(i:cZ c){k:Nat}{l:List Int}(h:c.ci[k]?=some l):k < c.al.length:=by
 rw[←i.len]
 exact(aqG.mp h).1
theorem cZ.add{c:aK}(i:cZ c)(hf:c.al.length < 200){x:Int}(hx:0<=x/\x<=9):cZ { c with al:=c.al++[x],ci:=c.ci++[[(c.al.length:Int)+1]] }:=by
 have key:∀(k:Nat) (l:List Int),(c.ci++[[(c.al.length:Int)+1]])[k]?=some l->(c.ci[k]?=some l/\k < c.al.length)∨(k=c.al.length/\l=[(c.al.length:Int)+1]):=fun k l h=>by
  by_cases hk:k < c.ci.length
  ·rw[aqP hk]at h
   exact .inl ⟨h,i.lt h⟩
  ·rw[aqT (by omega)]at h
   have hk2:k - c.ci.length=0:=by
    have:=(aqG.mp h).1
    simp at this
    omega
   rw[hk2]at h
   simp at h
   exact .inr ⟨by have:=i.len;omega,h.symm⟩
 refine⟨by simp[i.len],by simp;omega,fun y hy=>?_,fun k l h y hy=>?_,fun k l h=>?_,fun k l h=>?_,fun k j l h hj=>?_⟩
 ·rcases aqU.mp hy with hy|hy
  ·exact i.al y hy
  ·rw[aqL.mp hy]
   exact hx
 ·show 1<=y/\y<=((c.al++[x]).length:Int)
  rw[arj,List.length_singleton]
  rcases key k l h with⟨h,_⟩|⟨_,rfl⟩
  ·have:=i.mem k l h y hy
   omega
  ·rw[aqL.mp hy]
   omega
 ·rcases key k l h with⟨h,_⟩|⟨rfl,rfl⟩
  ·exact i.own k l h
  ·simp
 ·rcases key k l h with⟨h,_⟩|⟨rfl,rfl⟩
  ·exact i.up k l h
  ·simp
 ·show(c.ci++[[(c.al.length:Int)+1]])[j]?=some l
  rcases key k l h with⟨h,_⟩|⟨rfl,rfl⟩
  ·have h2:=i.one k j l h hj
   rw[aqP (aqG.mp h2).1]
   exact h2
  ·have:j=c.al.length:=by
    rw[aqL]at hj
    omega
   rw[this,←i.len]
   simp
theorem Y9(l:List Int):∀(s:List Int) (ci:List (List Int)) (k:Nat),(∀y∈s,1<=y)->(s.foldl (fun s y=>s.set (y - 1).toNat l) ci)[k]?=if ((k:Int)+1∈s)/\k < ci.length then some l else ci[k]?
 |[],ci,k,_=>by simp
 |y::s,ci,k,h=>by
  rw[arO,Y9 l s _ k fun z hz=>h z (aqJ _ hz),aq4]
  have hy:=h y aqK
  by_cases h1:(k:Int)+1∈s/\k < ci.length
  ·rw[if_pos h1,if_pos ⟨aqJ _ h1.1,h1.2⟩]
  ·rw[if_neg h1,arC]
   by_cases h2:(y - 1).toNat=k
   ·rw[if_pos h2]
    have e:(k:Int)+1=y:=by omega
    by_cases h3:k < ci.length
    ·rw[if_pos (by omega),if_pos ⟨by rw[e];exact aqK,h3⟩]
    ·rw[if_neg (by omega),if_neg (fun z=>h3 z.2),aq8 (by omega)]
   ·rw[if_neg h2,if_neg]
    rintro⟨z,h3⟩
    rcases aqV.mp z with z|z
    ·omega
    ·exact h1 ⟨z,h3⟩
theorem NK(ci:List (List Int))(l:List Int)(k:Nat)(h:∀y∈l,1<=y):(encl ci l)[k]?=if ((k:Int)+1∈l)/\k < ci.length then some l else ci[k]?:=Y9 l l ci k h
theorem cZ.again{c:aK}(i:cZ c){ci:List (List Int)}(hl:ci.length=c.ci.length)(P:List Int->Prop)
  (h1:∀(k:Nat) (l:List Int),ci[k]?=some l->(P l/\(k:Int)+1∈l)∨c.ci[k]?=some l)
  (h2:∀l,P l->l.Pairwise (· < ·)/\∀y∈l,Vg c y/\ci[(y - 1).toNat]?=some l)
  (h3:∀(k j:Nat) (l:List Int),ci[k]?=some l->c.ci[k]?=some l->c.ci[j]?=some l->(k:Int)+1∈l->¬P l->ci[j]?=some l):cZ { c with ci:=ci }:=by
 refine⟨by show ci.length=_;rw[hl,i.len],i.few,i.al,fun k l h y hy=>?_,fun k l h=>?_,fun k l h=>?_,fun k j l h hj=>?_⟩
 ·rcases h1 k l h with⟨p,_⟩|h
  ·exact((h2 l p).2 y hy).1
  ·exact i.mem k l h y hy
 ·rcases h1 k l h with⟨_,p⟩|h
  ·exact p
  ·exact i.own k l h
 ·rcases h1 k l h with⟨p,_⟩|h
  ·exact(h2 l p).1
  ·exact i.up k l h
 ·show ci[j]?=some l
  have pj:P l->ci[j]?=some l:=fun p=>by
   have:=((h2 l p).2 _ hj).2
   rwa [show((j:Int)+1 - 1).toNat=j by omega]at this
  rcases h1 k l h with⟨p,_⟩|h'
  ·exact pj p
  ·by_cases p:P l
   ·exact pj p
   ·exact h3 k j l h h' (i.one k j l h' hj) (i.own k l h') p
theorem cZ.at{c:aK}(i:cZ c){x:Int}(h:Vg c x):c.ci[(x - 1).toNat]?=some (bD c x):=by
 obtain⟨k,hk,rfl⟩:=Ck h
 have hk':k < c.ci.length:=by rw[i.len];exact hk
 simp[bD,hk']
theorem cZ.self{c:aK}(i:cZ c){x:Int}(h:Vg c x):x∈bD c x:=by
 have:=i.own _ _ (i.at h)
 rwa [show(((x - 1).toNat:Nat):Int)+1=x by omega]at this
theorem cZ.eq{c:aK}(i:cZ c){x y:Int}(h:Vg c x)(hy:y∈bD c x):bD c y=bD c x:=by
 have v:=i.mem _ _ (i.at h) y hy
 have:=i.one _ (y - 1).toNat _ (i.at h) (by rw[show(((y - 1).toNat:Nat):Int)+1=y by omega];exact hy)
 rw[i.at v]at this
 exact aq0 this
theorem acv{l:List Int}{i:Int}:i∈sortI l↔i∈l:=by
 unfold sortI
 rw[List.mem_mergeSort]
theorem afd{l:List Int}(h:l.Nodup):(sortI l).Pairwise (· < ·):=by
 unfold sortI
 have srt:=List.pairwise_mergeSort (le:=fun a b:Int=>decide (a<=b)) (fun a b c k1 k2=>by rw[decide_eq_true_eq]at *;omega) (fun a b=>by rw[arW,decide_eq_true_eq,decide_eq_true_eq];omega) l
 have nd:(l.mergeSort fun a b=>decide (a<=b)).Nodup:=(List.mergeSort_perm _ _).nodup_iff.mpr h
 refine List.Pairwise.imp₂ (fun a b h1 h2=>?_) srt nd
 rw[decide_eq_true_eq]at h1
 have:a≠b:=h2
 omega
theorem cZ.yQ{c:aK}(i:cZ c){x y:Int}(hx:Vg c x)(hy:Vg c y)(hn:y∉bD c x):cZ { c with ci:=encl c.ci (sortI (bD c x++bD c y)) }:=by
 generalize hS:sortI (bD c x++bD c y)=S
 have mem:∀z,z∈S↔z∈bD c x∨z∈bD c y:=fun z=>by rw[←hS,acv,aqU]
 have vg:∀z∈S,Vg c z:=fun z hz=>by
  rcases(mem z).mp hz with h|h
  ·exact i.mem _ _ (i.at hx) z h
  ·exact i.mem _ _ (i.at hy) z h
 have up:S.Pairwise (· < ·):=by
  rw[←hS]
  refine afd ?_
  rw[arq]
  have nd:∀{l:List Int},l.Pairwise (· < ·)->l.Nodup:=fun h=>h.imp fun {a b} z e=>by omega
  refine⟨nd (i.up _ _ (i.at hx)),nd (i.up _ _ (i.at hy)),fun a ha b hb e=>?_⟩
  subst e
  have e1:=i.eq hx ha
  have e2:=i.eq hy hb
  rw[e1]at e2
  exact hn (e2 ▸ i.self hy)
 have get:=fun k=>NK c.ci S k fun z hz=>(vg z hz).1
 refine i.again (P:=fun l=>l=S) (by unfold encl;rw[yG]) (fun k l h=>?_) (fun l hl=>?_) (fun k j l h h' hj hk np=>?_)
 ·rw[get]at h
  split at h
  ·next z=>
   cases h
   exact .inl ⟨rfl,z.1⟩
  ·exact .inr h
 ·subst hl
  refine⟨up,fun z hz=>⟨vg z hz,?_⟩⟩
  have v:=vg z hz
  have e:(((z - 1).toNat:Nat):Int)+1=z:=by omega
  rw[get,e,if_pos ⟨hz,by rw[i.len];omega⟩]
 ·rw[get]
  by_cases z:(j:Int)+1∈S/\j < c.ci.length
  ·exfalso
   have v:=vg _ z.1
   have ej:bD c ((j:Int)+1)=l:=by
    have:=i.at v
    rw[show((j:Int)+1 - 1).toNat=j by omega,hj]at this
    exact(aq0 this).symm
   have hk2:(k:Int)+1∈S:=by
    rw[mem]
    rcases(mem _).mp z.1 with q|q
    ·exact .inl (by rw[←i.eq hx q,ej];exact hk)
    ·exact .inr (by rw[←i.eq hy q,ej];exact hk)
   rw[get,if_pos ⟨hk2,(aqG.mp h').1⟩]at h
   exact np (aq0 h).symm
  ·rw[if_neg z]
   exact hj
theorem cZ.part{c:aK}(i:cZ c){x:Int}(hx:Vg c x):cZ { c with ci:=encl (encl c.ci [x]) (rQ c x) }:=by
 have mem:∀z,z∈rQ c x↔z∈bD c x/\z≠x:=fun z=>by
  unfold rQ
  rw[aq1]
  simp
 have vg:∀z∈rQ c x,Vg c z:=fun z hz=>i.mem _ _ (i.at hx) z ((mem z).mp hz).1
 have l1:(encl c.ci [x]).length=c.ci.length:=by unfold encl;rw[yG]
 have get:∀k:Nat,(encl (encl c.ci [x]) (rQ c x))[k]?=if ((k:Int)+1∈rQ c x)/\k < c.ci.length then some (rQ c x) else if ((k:Int)+1=x)/\k < c.ci.length then some [x] else c.ci[k]?:=fun k=>by
  rw[NK _ _ _ fun z hz=>(vg z hz).1,l1,NK _ _ _ fun z hz=>by rw[aqL.mp hz];exact hx.1]
  simp only[aqL]
 refine i.again (P:=fun l=>l=rQ c x/\l≠[]∨l=[x]) (by unfold encl;rw[yG,yG]) (fun k l h=>?_) (fun l hl=>?_) (fun k j l h h' hj hk np=>?_)
 ·rw[get]at h
  split at h
  ·next z=>
   cases h
   exact .inl ⟨.inl ⟨rfl,List.ne_nil_of_mem z.1⟩,z.1⟩
  ·split at h
   ·next z=>
    cases h
    exact .inl ⟨.inr rfl,by rw[z.1];simp⟩
   ·exact .inr h
 ·rcases hl with⟨rfl,_⟩|rfl
  ·refine⟨(i.up _ _ (i.at hx)).filter _,fun z hz=>⟨vg z hz,?_⟩⟩
   have v:=vg z hz
   have e:(((z - 1).toNat:Nat):Int)+1=z:=by omega
   rw[get,e,if_pos ⟨hz,by rw[i.len];omega⟩]
  ·refine⟨by simp,fun z hz=>?_⟩
   rw[aqL.mp hz]
   refine⟨hx,?_⟩
   have e:(((x - 1).toNat:Nat):Int)+1=x:=by omega
   rw[get,e,if_neg (fun z=>((mem x).mp z.1).2 rfl),if_pos ⟨rfl,by rw[i.len];omega⟩]
 ·have key:∀m:Nat,c.ci[m]?=some l->(m:Int)+1∈bD c x->l=bD c x:=fun m hm q=>by
   have v:=i.mem _ _ (i.at hx) _ q
   have:=i.at v
   rw[show((m:Int)+1 - 1).toNat=m by omega,hm,i.eq hx q]at this
   exact aq0 this
  have out:(k:Int)+1∉bD c x:=fun q=>by
   rw[get]at h
   by_cases e:(k:Int)+1=x
   ·rw[if_neg (fun z=>((mem _).mp z.1).2 e),if_pos ⟨e,(aqG.mp h').1⟩]at h
    exact np (.inr (aq0 h).symm)
   ·rw[if_pos ⟨(mem _).mpr ⟨q,e⟩,(aqG.mp h').1⟩]at h
    have e2:=(aq0 h).symm
    exact np (.inl ⟨e2,fun z=>by rw[z]at hk;cases hk⟩)
  have outj:(j:Int)+1∉bD c x:=fun q=>out (key j hj q ▸ hk)
  have o1:¬((j:Int)+1∈rQ c x/\j < c.ci.length):=fun z=>outj ((mem _).mp z.1).1
  have o2:¬((j:Int)+1=x/\j < c.ci.length):=fun z=>outj (by rw[z.1];exact i.self hx)
  rw[get,if_neg o1,if_neg o2]
  exact hj
def Good(held:List Row3)(s:Sd):Prop:=cV s.ear=true/\(∀e,s.due=some e->cV e=true)/\(s.al=true->∃m,(s.o,s.g,m)∈held)
structure Qn(m:Nat)(c:aK):Prop where
 g:∀b∈c.bs,Good c.held b.sd
 en:∀b∈c.bs,b.en.length<=m
theorem Inv.Vu{n s:Nat}{c:aK}(I:Inv n s c):Qn (2 * n) c:=⟨fun b hb=>⟨I.ear b hb,I.due b hb,I.rt b hb⟩,I.en⟩
theorem Xq{c:aK}{i:Nat}{e:En}{b:dH}(h:b∈(eX c i e).bs):b∈c.bs∨∃b0,c.bs[i]?=some b0/\b=oF b0 e:=by
 obtain⟨j,hj⟩:=List.mem_iff_getElem?.mp h
 rw[vC]at hj
 split at hj
 ·next z=>
  subst z
  obtain⟨b0,h3,h4⟩:=arx.mp hj
  exact .inr ⟨b0,h3,h4.symm⟩
 ·exact .inl (aqM hj)
theorem Qn.one{m:Nat}{c:aK}(B:Qn m c){i:Nat}{e:En}(h:∀b,c.bs[i]?=some b->Good c.held (go b.sd e)):Qn (m+1) (eX c i e):=by
 refine⟨fun b hb=>?_,fun b hb=>?_⟩
 ·rcases Xq hb with h1|⟨b0,h1,rfl⟩
  ·exact B.g b h1
  ·exact h b0 h1
 ·rcases Xq hb with h1|⟨b0,h1,rfl⟩
  ·have:=B.en b h1
   omega
  ·have:=B.en b0 (aqM h1)
   simp[oF]
   omega
theorem Qn.many{m:Nat}{c:aK}(B:Qn m c){p:dH->Bool}{e:En}(h:∀b∈c.bs,p b=true->Good c.held (go b.sd e)):Qn (m+1) (nZ p e c):=by
 refine⟨fun b hb=>?_,fun b hb=>?_⟩
 ·obtain⟨b0,h1,rfl⟩:=aqR.mp hb
  cases hp:p b0 with
  |true=>
   rw[if_pos rfl]
   exact h b0 h1 hp
  |false=>
   rw[if_neg (by simp)]
   exact B.g b0 h1
 ·obtain⟨b0,h1,rfl⟩:=aqR.mp hb
  have:=B.en b0 h1
  cases hp:p b0 <;> simp[oF] <;> omega
theorem Good.mono{held held':List Row3}{s:Sd}(g:Good held s)(h:∀r∈held,r∈held'):Good held' s:=⟨g.1,g.2.1,fun z=>by
 obtain⟨m,hm⟩:=g.2.2 z
 exact⟨m,h _ hm⟩⟩
theorem Inv.of{n s n' s':Nat}{c c':aK}(I:Inv n s c)(hn:n<=n')(gr:cZ c')(hal:c'.al.length<=n')(ec:c'.count=c.count)(eo:c'.own=c.own)(hd:c'.held.Nodup)(hL:c'.held.length+c'.bs.length<=s')(hE:∀r∈c'.held,r.1∈c'.own/\Vg c' r.2.1/\cV r.2.2=true)(B:Qn (2 * n') c'):Inv n' s' c':=
 ⟨gr,hal,by have:=I.cnt;rw[ec];omega,by rw[ec,eo];exact I.own,by rw[eo];exact I.NQ,by have:=I.ownL;rw[eo];omega,hd,hL,hE,fun b hb=>(B.g b hb).1,fun b hb=>(B.g b hb).2.1,B.en,fun b hb=>(B.g b hb).2.2⟩
theorem abJ{x:List Int}{p:Nat}(h:cV x=true)(h9:¬9<=x.getD p 0):cV (nO x p)=true:=by
 unfold cV at *
 simp only[aqF,decide_eq_true_eq,aqZ]at *
 refine⟨by rw[abG];exact h.1,fun d hd=>?_⟩
 unfold nO at hd
 obtain⟨i,hi,rfl⟩:=List.mem_mapIdx.mp hd
 have:=h.2 _ (arl hi)
 split
 ·next e=>
  subst e
  have:x.getD i 0=x[i]:=by simp[hi]
  omega
 ·exact this
theorem Ou{r:Row3}:∀(l acc:List Row3),r∈l.foldl Ec acc↔r∈acc∨r∈l
 |[],acc=>by simp
 |x::l,acc=>by
  rw[arO,Ou l]
  unfold Ec
  split
  ·next h=>
   constructor
   ·rintro(z|z)
    ·exact .inl z
    ·exact .inr (aqJ _ z)
   ·rintro(z|z)
    ·exact .inl z
    ·rcases aqV.mp z with rfl|z
     ·exact .inl h
     ·exact .inr z
  ·simp[or_assoc]
theorem Rp:∀(l acc:List Row3),acc.Nodup->(l.foldl Ec acc).Nodup
 |[],acc,h=>h
 |x::l,acc,h=>by
  rw[arO]
  refine Rp l _ ?_
  unfold Ec
  split
  ·exact h
  ·next z=>
   rw[arq]
   exact⟨h,by simp,fun a ha b hb e=>z (by rw[aqL.mp hb]at e;exact e ▸ ha)⟩
theorem Yx:∀(l acc:List Row3),(l.foldl Ec acc).length<=acc.length+l.length
 |[],acc=>by simp
 |x::l,acc=>by
  rw[arO]
  refine aq7 (Yx l _) ?_
  unfold Ec
  split <;> simp <;> omega
def cost:bH->Nat
 |.enrol ..=>1
 |.bring ..=>1
 |.bear ..=>1
 |.heir ..=>1
 |_=>0
theorem Lp{o room:Int}{e:List Int}{R:List Rw}{x:Res}{d:Dat}{c':aK}(h:Ac o e R room x=.ok d c'):x=.ok d c':=by
 unfold Ac at h
 split at h
 ·exact h
 ·cases h
theorem yu{c:aK}{o:Int}{x:Res}{d:Dat}{c':aK}(h:tD c o x=.ok d c'):o∈c.own/\x=.ok d c':=by
 unfold tD at h
 split at h
 ·next z=>exact⟨z,h⟩
 ·cases h
theorem zf{c:aK}{g:Int}{x:Res}{d:Dat}{c':aK}(h:wu c g x=.ok d c'):Vg c g/\x=.ok d c':=by
 unfold wu at h
 split at h
 ·next z=>exact⟨z,h⟩
 ·cases h
theorem aaM{e:List Int}{x:Res}{d:Dat}{c':aK}(h:JX e x=.ok d c'):cV e=true/\x=.ok d c':=by
 unfold JX at h
 split at h
 ·next z=>exact⟨z,h⟩
 ·cases h
theorem zu{c:aK}{o g:Int}{x:Res}{d:Dat}{c':aK}(h:nH c o g x=.ok d c'):bM c o g≠[]/\x=.ok d c':=by
 unfold nH at h
 split at h
 ·cases h
 ·next z=>exact⟨z,h⟩
theorem Lr{c:aK}{k:Int}{f:dH->Res}{d:Dat}{c':aK}(h:qX c k f=.ok d c'):∃b,bk c k=some b/\b.sd.al=true/\f b=.ok d c':=by
 unfold qX at h
 split at h
 ·cases h
 ·next b hb=>
  split at h
  ·next z=>exact⟨b,hb,z,h⟩
  ·cases h
theorem Nt{c:aK}{k:Int}{f:dH->List Int->Res}{d:Dat}{c':aK}(h:markB c k f=.ok d c'):∃b e,bk c k=some b/\b.sd.al=true/\b.sd.due=some e/\f b e=.ok d c':=by
 obtain⟨b,h1,h2,h3⟩:=Lr h
 split at h3
 ·cases h3
 ·next e he=>exact⟨b,e,h1,h2,he,h3⟩
theorem wW{p:Prop}[Decidable p]{x:dJ}{y:Res}{d:Dat}{c':aK}(h:(if p then .no x else y)=Res.ok d c'):¬p/\y=.ok d c':=by
 split at h
 ·cases h
 ·next z=>exact⟨z,h⟩
theorem TV{p:Prop}[Decidable p]{x:dJ}{y:Res}{d:Dat}{c':aK}(h:(if p then y else .no x)=Res.ok d c'):p/\y=.ok d c':=by
 split at h
 ·next z=>exact⟨z,h⟩
 ·cases h
theorem lY{c:aK}{k:Int}{b:dH}(h:bk c k=some b):c.bs[(k - 1).toNat]?=some b/\1<=k/\k<=c.bs.length:=by
 unfold bk at h
 split at h
 ·next z=>exact⟨h,z⟩
 ·cases h
theorem Pu(c:aK)(k o g:Int):(yr c k o g).bs.length=c.bs.length:=by simp[yr,nZ]
theorem Cj(c:aK)(i:Nat)(e:En):(eX c i e).bs.length=c.bs.length:=by simp[eX]
theorem Yp{n s:Nat}{c c':aK}{d:bH}{r:Dat}(I:Inv n s c)(hn:n<=199)(h:cA c d=.ok r c'):Inv (n+1) (s+cost d) c':=by
 have L0:=I.hL
 have A0:=I.al
 have C0:=I.cnt
 have O0:=I.ownL
 have up:Qn (2 * (n+1)) c:=⟨I.Vu.g,fun b hb=>by have:=I.en b hb;omega⟩
 cases d with
 |owner=>
  cases h
  refine⟨I.gr.same rfl rfl,by show c.al.length<=_;omega,⟨by show 0<=c.count+1;omega,by show c.count+1<=((n+1:Nat):Int);omega⟩,fun o ho=>?_,?_,by simp;omega,I.held,by simp[cost];omega,fun r hr=>?_,I.ear,I.due,up.en,I.rt⟩
  ·show 1<=o/\o<=c.count+1
   rcases aqU.mp ho with ho|ho
   ·have:=I.own o ho
    omega
   ·rw[aqL.mp ho]
    omega
  ·rw[arq]
   refine⟨I.NQ,by simp,fun a ha b hb e=>?_⟩
   rw[aqL.mp hb]at e
   have:=I.own a ha
   omega
  ·obtain⟨h1,h2,h3⟩:=I.hE r hr
   exact⟨ark _ h1,h2,h3⟩
 |ground x=>
  obtain⟨hx,h⟩:=TV h
  cases h
  refine I.of (by omega) (I.gr.add (by omega) hx) (by simp;omega) rfl rfl I.held (by simp[cost];omega) (fun r hr=>?_) ⟨up.g,up.en⟩
  obtain⟨h1,h2,h3⟩:=I.hE r hr
  refine⟨h1,?_,h3⟩
  show 1<=_/\_<=((c.al++[x]).length:Int)
  rw[arj]
  have:=h2.2
  exact⟨h2.1,by omega⟩
 |enrol o g m=>
  obtain⟨h1,h⟩:=yu h
  obtain⟨h2,h⟩:=zf h
  obtain⟨h3,h⟩:=aaM h
  obtain⟨h4,h⟩:=wW h
  obtain⟨h5,h⟩:=wW h
  have h:=Lp h
  cases h
  refine I.of (by omega) (I.gr.same rfl rfl) (by show c.al.length<=_;omega) rfl rfl ?_ (by simp[cost];omega) (fun r hr=>?_) ⟨fun b hb=>(up.g b hb).mono fun r hr=>ark _ hr,up.en⟩
  ·rw[arq]
   refine⟨I.held,by simp,fun a ha b hb e=>?_⟩
   rw[aqL.mp hb]at e
   exact h5 (Dd.mpr (e ▸ ha))
  ·rcases aqU.mp hr with hr|hr
   ·exact I.hE r hr
   ·rw[aqL.mp hr]
    exact⟨h1,h2,h3⟩
 |leave o g=>
  obtain⟨h1,h⟩:=yu h
  obtain⟨h2,h⟩:=zf h
  obtain⟨h3,h⟩:=zu h
  obtain⟨h4,h⟩:=wW h
  cases h
  have sub:∀r∈dropped c o g,r∈c.held:=fun r hr=>(aq1.mp hr).1
  have ln:(dropped c o g).length<=c.held.length:=aqW _ _
  refine I.of (by omega) (I.gr.same rfl rfl) (by show c.al.length<=_;omega) rfl rfl (I.held.filter _) (by simp[cost];omega) (fun r hr=>I.hE r (sub r hr)) ⟨fun b hb=>⟨(up.g b hb).1,(up.g b hb).2.1,fun hal=>?_⟩,up.en⟩
  obtain⟨m,hm⟩:=(up.g b hb).2.2 hal
  refine⟨m,aq1.mpr ⟨hm,?_⟩⟩
  simp only[aqY,Bool.and_eq_false_iff,beq_eq_false_iff_ne]
  by_cases e:b.sd.o=o/\b.sd.g=g
  ·exfalso
   refine h4 (List.any_eq_true.mpr ⟨b,hb,?_⟩)
   simp[W3,hal,e.1,e.2]
  ·by_cases e1:b.sd.o=o
   ·exact .inr fun z=>e ⟨e1,z⟩
   ·exact .inl e1
 |bring o g e=>
  obtain⟨h1,h⟩:=yu h
  obtain⟨h2,h⟩:=zf h
  obtain⟨h3,h⟩:=aaM h
  obtain⟨h4,h⟩:=zu h
  cases h
  refine I.of (by omega) (I.gr.same rfl rfl) (by show c.al.length<=_;omega) rfl rfl I.held (by simp[cost];omega) I.hE ⟨fun b hb=>?_,fun b hb=>?_⟩
  ·rcases aqU.mp hb with hb|hb
   ·exact up.g b hb
   ·rw[aqL.mp hb]
    exact⟨h3,fun e z=>(by cases z),fun _=>yE.mp h4⟩
  ·rcases aqU.mp hb with hb|hb
   ·exact up.en b hb
   ·rw[aqL.mp hb]
    simp[Ei]
 |bear k=>
  obtain⟨b0,e0,h1,h2,h3,h⟩:=Nt h
  cases h
  refine I.of (by omega) (I.gr.same rfl rfl) (by show c.al.length<=_;omega) rfl rfl I.held (by simp[cost];omega) I.hE ⟨fun b hb=>?_,fun b hb=>?_⟩
  ·rcases aqU.mp hb with hb|hb
   ·exact up.g b hb
   ·rw[aqL.mp hb]
    exact⟨(by decide:cV [0,0,0,0,0,0]=true),fun e z=>(by cases z),fun _=>(up.g b0 (aqM (lY h1).1)).2.2 h2⟩
  ·rcases aqU.mp hb with hb|hb
   ·exact up.en b hb
   ·rw[aqL.mp hb]
    simp[Ei]
 |cut k=>
  obtain⟨b0,h1,h2,h⟩:=Lr h
  have h:=Lp h
  cases h
  have hm:=aqM (lY h1).1
  obtain⟨r,q4,q5⟩:=I.mk1 (I.alive hm h2).1
  have je:=Du (I.ear b0 hm) q5
  generalize jM b0.sd.ear (firstM c b0.sd.o b0.sd.g)=e at je ⊢
  have B:=I.Vu.one (i:=(k - 1).toNat) (e:=.cut e) fun b hb=>by
   rw[(lY h1).1]at hb
   cases hb
   exact⟨je,fun e z=>(by cases z;exact je),fun _=>I.rt b0 hm h2⟩
  exact I.of (by omega) (I.gr.same rfl rfl) (by show c.al.length<=_;omega) rfl rfl I.held (by rw[Cj];simp[cost,eX];omega) I.hE ⟨B.g,fun b hb=>by have:=B.en b hb;omega⟩
 |tear k p=>
  obtain⟨b0,h1,h2,h⟩:=Lr h
  obtain⟨h3,h⟩:=TV h
  obtain⟨h4,h⟩:=wW h
  cases h
  have hm:=aqM (lY h1).1
  have B:=I.Vu.one (i:=(k - 1).toNat) (e:=.torn p.toNat) fun b hb=>by
   rw[(lY h1).1]at hb
   cases hb
   exact⟨abJ (I.ear b0 hm) h4,I.due b0 hm,I.rt b0 hm⟩
  exact I.of (by omega) (I.gr.same rfl rfl) (by show c.al.length<=_;omega) rfl rfl I.held (by rw[Cj];simp[cost,eX];omega) I.hE ⟨B.g,fun b hb=>by have:=B.en b hb;omega⟩
 |die k=>
  obtain⟨b0,h1,h2,h⟩:=Lr h
  cases h
  have hm:=aqM (lY h1).1
  have B:=I.Vu.one (i:=(k - 1).toNat) (e:=.died) fun b hb=>by
   rw[(lY h1).1]at hb
   cases hb
   exact⟨I.ear b0 hm,I.due b0 hm,fun z=>by cases z⟩
  exact I.of (by omega) (I.gr.same rfl rfl) (by show c.al.length<=_;omega) rfl rfl I.held (by rw[Cj];simp[cost,eX];omega) I.hE ⟨B.g,fun b hb=>by have:=B.en b hb;omega⟩
 |sell k o=>
  obtain⟨b0,e0,h1,h2,h3,h⟩:=Nt h
  obtain⟨h4,h⟩:=yu h
  obtain⟨h5,h⟩:=wW h
  obtain⟨h6,h⟩:=zu h
  have h:=Lp h
  cases h
  have hm:=aqM (lY h1).1
  obtain⟨r,q4,q5⟩:=I.mk1 h6
  have je:=Du (I.ear b0 hm) q5
  generalize jM b0.sd.ear (firstM c o b0.sd.g)=e at je ⊢
  have B:=I.Vu.one (i:=(k - 1).toNat) (e:=.sold o e) fun b hb=>by
   rw[(lY h1).1]at hb
   cases hb
   exact⟨je,fun e z=>(by cases z;exact je),fun _=>yE.mp h6⟩
  have B2:=B.many (p:=fun x=>yW k x&&x.sd.al) (e:=.followed o b0.sd.g) fun b hb _=>⟨(B.g b hb).1,(B.g b hb).2.1,fun _=>yE.mp h6⟩
  exact I.of (by omega) (I.gr.same rfl rfl) (by show c.al.length<=_;omega) rfl rfl I.held (by rw[Pu,Cj];simp[cost,eX,yr,nZ];omega) I.hE ⟨B2.g,fun b hb=>by have:=B2.en b hb;omega⟩
 |move k g=>
  obtain⟨b0,e0,h1,h2,h3,h⟩:=Nt h
  obtain⟨h4,h⟩:=zf h
  obtain⟨h5,h⟩:=wW h
  obtain⟨h6,h⟩:=zu h
  have h:=Lp h
  cases h
  have hm:=aqM (lY h1).1
  have B:=I.Vu.one (i:=(k - 1).toNat) (e:=.moved g) fun b hb=>by
   rw[(lY h1).1]at hb
   cases hb
   exact⟨I.ear b0 hm,I.due b0 hm,fun _=>yE.mp h6⟩
  have B2:=B.many (p:=fun x=>yW k x&&x.sd.al) (e:=.followed b0.sd.o g) fun b hb _=>⟨(B.g b hb).1,(B.g b hb).2.1,fun _=>yE.mp h6⟩
  exact I.of (by omega) (I.gr.same rfl rfl) (by show c.al.length<=_;omega) rfl rfl I.held (by rw[Pu,Cj];simp[cost,eX,yr,nZ];omega) I.hE ⟨B2.g,fun b hb=>by have:=B2.en b hb;omega⟩
 |yQ x y=>
  obtain⟨h1,h⟩:=zf h
  obtain⟨h2,h⟩:=zf h
  obtain⟨h3,h⟩:=wW h
  split at h
  ·cases h
  ·cases h
   exact I.of (by omega) (I.gr.yQ h2 h1 h3) (by show c.al.length<=_;omega) rfl rfl I.held (by show c.held.length+c.bs.length<=_;omega) I.hE ⟨up.g,up.en⟩
 |part x=>
  obtain⟨h1,h⟩:=zf h
  obtain⟨h3,h⟩:=wW h
  cases h
  exact I.of (by omega) (I.gr.part h1) (by show c.al.length<=_;omega) rfl rfl I.held (by show c.held.length+c.bs.length<=_;omega) I.hE ⟨up.g,up.en⟩
 |pass e h'=>
  obtain⟨h1,h⟩:=yu h
  obtain⟨h2,h⟩:=yu h
  obtain⟨h3,h⟩:=wW h
  cases h
  have hin:∀r∈c.held,Bf e h' r∈handed c e h':=fun r hr=>(Ou _ _).mpr (.inr (aqR.mpr ⟨r,hr,rfl⟩))
  have hout:∀r∈handed c e h',∃r0∈c.held,Bf e h' r0=r:=fun r hr=>by
   rcases(Ou _ _).mp hr with z|z
   ·cases z
   ·obtain⟨r0,z1,z2⟩:=aqR.mp z
    exact⟨r0,z1,z2⟩
  have hl:(handed c e h').length<=c.held.length:=by
   have:=Yx (c.held.map (Bf e h')) []
   simpa [handed] using this
  have ow:∀o,o∈c.own.filter (fun o=>!(o==e))↔o∈c.own/\o≠e:=fun o=>by
   rw[aq1]
   simp
  have g:∀b∈(nZ (fun b=>(b.sd.o==e)&&b.sd.al) (.passed h') c).bs,Good (handed c e h') b.sd:=fun b hb=>by
   obtain⟨b0,hb0,rfl⟩:=aqR.mp hb
   have G:=up.g b0 hb0
   cases hp:((b0.sd.o==e)&&b0.sd.al) with
   |true=>
    simp only[hp,if_true]
    refine⟨G.1,G.2.1,fun hal=>?_⟩
    obtain⟨m,hm⟩:=G.2.2 hal
    have:=hin _ hm
    simp at hp
    rw[hp.1]at this
    exact⟨m,by simpa [Bf,oF,go] using this⟩
   |false=>
    simp only[hp]
    refine⟨G.1,G.2.1,fun hal=>?_⟩
    obtain⟨m,hm⟩:=G.2.2 hal
    have:=hin _ hm
    have hal:b0.sd.al=true:=hal
    rw[hal]at hp
    simp at hp
    exact⟨m,by simpa [Bf,hp] using this⟩
  have en:∀b∈(nZ (fun b=>(b.sd.o==e)&&b.sd.al) (.passed h') c).bs,b.en.length<=2 * (n+1):=fun b hb=>by
   obtain⟨b0,hb0,rfl⟩:=aqR.mp hb
   have:=I.en b0 hb0
   dsimp only
   split
   ·simp[oF]
    omega
   ·omega
  refine⟨I.gr.same rfl rfl,by show c.al.length<=_;omega,⟨C0.1,by show c.count<=_;omega⟩,fun o ho=>I.own o ((ow o).mp ho).1,I.NQ.filter _,?_,Rp _ _ (by simp),?_,fun r hr=>?_,fun b hb=>(g b hb).1,fun b hb=>(g b hb).2.1,en,fun b hb=>(g b hb).2.2⟩
  ·show(c.own.filter _).length<=_
   have:=aqW (fun o=>!(o==e)) c.own
   omega
  ·show(handed c e h').length+(nZ _ _ c).bs.length<=_
   simp[nZ]
   omega
  ·obtain⟨r0,z1,rfl⟩:=hout r hr
   obtain⟨q1,q2,q3⟩:=I.hE r0 z1
   refine⟨(ow _).mpr ?_,q2,q3⟩
   unfold Bf
   by_cases z:r0.1=e
   ·simp only[z,if_true]
    exact⟨h2,fun q=>h3 q.symm⟩
   ·simp only[z,if_false]
    exact⟨q1,z⟩
 |heir e g x=>
  obtain⟨h1,h⟩:=yu h
  obtain⟨h2,h⟩:=zf h
  obtain⟨h3,h⟩:=TV h
  obtain⟨h4,h⟩:=zu h
  split at h
  ·next mk hmk=>
   cases h
   obtain⟨r,q4,q5⟩:=I.mk1 h4
   have hme:cV mk=true:=Vn q5 ⟨by omega,h3.2⟩ (aq1.mp (List.mem_of_find?_eq_some hmk)).1
   refine⟨I.gr.same rfl rfl,by show c.al.length<=_;omega,⟨by show 0<=c.count+1;omega,by show c.count+1<=((n+1:Nat):Int);omega⟩,fun o ho=>?_,?_,by simp;omega,?_,by simp[cost];omega,fun r hr=>?_,I.ear,I.due,up.en,fun b hb hal=>?_⟩
   ·show 1<=o/\o<=c.count+1
    rcases aqU.mp ho with ho|ho
    ·have:=I.own o ho
     omega
    ·rw[aqL.mp ho]
     omega
   ·rw[arq]
    refine⟨I.NQ,by simp,fun a ha b hb e=>?_⟩
    rw[aqL.mp hb]at e
    have:=I.own a ha
    omega
   ·rw[arq]
    refine⟨I.held,by simp,fun a ha b hb e=>?_⟩
    rw[aqL.mp hb]at e
    have:=I.own _ (I.hE a ha).1
    rw[e]at this
    simp at this
    omega
   ·rcases aqU.mp hr with hr|hr
    ·obtain⟨z1,z2,z3⟩:=I.hE r hr
     exact⟨ark _ z1,z2,z3⟩
    ·rw[aqL.mp hr]
     exact⟨arG _ (by simp),h2,hme⟩
   ·obtain⟨m,hm⟩:=I.rt b hb hal
    exact⟨m,ark _ hm⟩
  ·cases h
def nB(x:Int):Bool:=decide (0<=x)&&decide (x<=999999999)
def plB(x:Int):Bool:=decide (0<=x)&&decide (x<=5)
theorem mJ(M:Mo)(x:Int):iG M [.str "number",.int x]=.ok (.bool (nB x)):=by
 by_cases h:0<=x <;> simp[iG,uN,nY,iI,yx,Ai,h,nB]
theorem iJ(M:Mo)(x:Int):iG M [.str "place",.int x]=.ok (.bool (plB x)):=by
 by_cases h:0<=x <;> simp[iG,uN,nY,iI,yx,Ai,h,plB]
theorem ac2(M:Mo)(x:List Int)(h:x.length<=1000):iG M [.str "ear",aM x]=.ok (.bool (cV x)):=by
 have:=V4 M x h
 simp[iG,uN,yx,Ai,this]
def fL:bH->Bool
 |.owner=>true
 |.ground x=>nB x
 |.enrol o g m=>nB o&&nB g&&cV m
 |.leave o g=>nB o&&nB g
 |.bring o g m=>nB o&&nB g&&cV m
 |.bear k=>nB k
 |.cut k=>nB k
 |.tear k p=>nB k&&plB p
 |.sell k o=>nB k&&nB o
 |.move k g=>nB k&&nB g
 |.die k=>nB k
 |.yQ x y=>nB x&&nB y
 |.part x=>nB x
 |.pass e h=>nB e&&nB h
 |.heir e g x=>nB e&&nB g&&nB x
def Ly:bH->Prop
 |.enrol _ _ m=>m.length<=1000
 |.bring _ _ m=>m.length<=1000
 |_=>True
theorem iK(M:Mo)(w:Str)(T:List (Str×Dat×Bool))(hk:(yR yh).lookup w=some (.tuple (T.map fun t=>.str t.1)))(hl:T.length<=10)(hp:∀t∈T,iG M [.str t.1,t.2.1]=.ok (.bool t.2.2)):Fj M [.tuple (.str w::T.map fun t=>t.2.1)]=.ok (.bool (T.all fun t=>t.2.2)):=by
 have hs:Rf.cutD (PyData.str w::T.map fun t=>t.2.1) (some 1) none=T.map fun t=>t.2.1:=IV _ 1
 have hz:wY (T.map fun t=>PyData.str t.1) (T.map fun t=>t.2.1)=T.map fun t=>.tuple [.str t.1,t.2.1]:=by
  unfold wY
  rw[List.zipWith_map_left,List.zipWith_map_right,List.zipWith_self]
 have key:=gR (tg:=bL [3,4]) (te:=aY iG (ak (aq 3) (ak (aq 4) au))) (M:=M) (ρ:=[some (.dat (.tuple (.str w::T.map fun t=>t.2.1))),some (.dat (.tuple (T.map fun t=>.str t.1))),some (.dat (.tuple (T.map fun t=>t.2.1))),none,none]) (fun(t:Str×Dat×Bool)=>PyData.tuple [.str t.1,t.2.1]) (fun t=>.bool t.2.2) T fun t ht=>⟨[some (.dat (.tuple (.str w::T.map fun t=>t.2.1))),some (.dat (.tuple (T.map fun t=>.str t.1))),some (.dat (.tuple (T.map fun t=>t.2.1))),some (.dat (.str t.1)),some (.dat t.2.1)],by simp,by simp[hp t ht]⟩
 have ha:O7 (.list (T.map fun t=>PyData.bool t.2.2))=.ok (.bool (T.all fun t=>t.2.2)):=by
  have e:(T.map fun t=>PyData.bool t.2.2)=(T.map fun t=>t.2.2).map PyData.bool:=by rw[arf];rfl
  rw[e]
  show(match ug _ with
   |some bs=>Out.ok (PyData.bool (bs.all id))
   |none=>.bad)=_
  rw[Dg]
  simp[List.all_map,aq3]
 have hl2:T.length<=50000:=by omega
 have hne:¬(T.length:Int)+1=0:=by omega
 simp[Fj,X8,hk,hs,hz,key,hl2,ha,hne]
theorem ahR(M:Mo)(d:bH)(hd:Ly d):Fj M [d.dat]=.ok (.bool (fL d)):=by
 cases d with
 |owner=>simpa [fL,bH.dat,Bool.and_assoc] using iK M "owner" [] (by rfl) (by simp) (by simp[mJ,iJ])
 |ground x=>simpa [fL,bH.dat,Bool.and_assoc] using iK M "ground" [("number",.int x,nB x)] (by rfl) (by simp) (by simp[mJ,iJ])
 |enrol o g m=>simpa [fL,bH.dat,Bool.and_assoc] using iK M "enrol" [("number",.int o,nB o),("number",.int g,nB g),("ear",aM m,cV m)] (by rfl) (by simp) (by simp[mJ,iJ,ac2 M m hd])
 |leave o g=>simpa [fL,bH.dat,Bool.and_assoc] using iK M "leave" [("number",.int o,nB o),("number",.int g,nB g)] (by rfl) (by simp) (by simp[mJ,iJ])
 |bring o g m=>simpa [fL,bH.dat,Bool.and_assoc] using iK M "bring" [("number",.int o,nB o),("number",.int g,nB g),("ear",aM m,cV m)] (by rfl) (by simp) (by simp[mJ,iJ,ac2 M m hd])
 |bear k=>simpa [fL,bH.dat,Bool.and_assoc] using iK M "bear" [("number",.int k,nB k)] (by rfl) (by simp) (by simp[mJ,iJ])
 |cut k=>simpa [fL,bH.dat,Bool.and_assoc] using iK M "cut" [("number",.int k,nB k)] (by rfl) (by simp) (by simp[mJ,iJ])
 |tear k p=>simpa [fL,bH.dat,Bool.and_assoc] using iK M "tear" [("number",.int k,nB k),("place",.int p,plB p)] (by rfl) (by simp) (by simp[mJ,iJ])
 |sell k o=>simpa [fL,bH.dat,Bool.and_assoc] using iK M "sell" [("number",.int k,nB k),("number",.int o,nB o)] (by rfl) (by simp) (by simp[mJ,iJ])
 |move k g=>simpa [fL,bH.dat,Bool.and_assoc] using iK M "move" [("number",.int k,nB k),("number",.int g,nB g)] (by rfl) (by simp) (by simp[mJ,iJ])
 |die k=>simpa [fL,bH.dat,Bool.and_assoc] using iK M "die" [("number",.int k,nB k)] (by rfl) (by simp) (by simp[mJ,iJ])
 |yQ x y=>simpa [fL,bH.dat,Bool.and_assoc] using iK M "unite" [("number",.int x,nB x),("number",.int y,nB y)] (by rfl) (by simp) (by simp[mJ,iJ])
 |part x=>simpa [fL,bH.dat,Bool.and_assoc] using iK M "part" [("number",.int x,nB x)] (by rfl) (by simp) (by simp[mJ,iJ])
 |pass e h=>simpa [fL,bH.dat,Bool.and_assoc] using iK M "pass" [("number",.int e,nB e),("number",.int h,nB h)] (by rfl) (by simp) (by simp[mJ,iJ])
 |heir e g x=>simpa [fL,bH.dat,Bool.and_assoc] using iK M "heir" [("number",.int e,nB e),("number",.int g,nB g),("number",.int x,nB x)] (by rfl) (by simp) (by simp[mJ,iJ])
theorem jR{M:Mo}{L:Lay}{o o':aZ Dat}{r:Res}(h:Sp M L o r)(e:o'=o):Sp M L o' r:=e ▸ h
section
variable{M:Mo}{L:Lay}{c:aK}(a:At M L c){n s:Nat}(I:Inv n s c)(hs:s<=76)(hn:n<=199)
include a I hs hn
theorem alu(d:bH)(hd:Ly d)(hf:fL d=true):Sp M L (cP M [ob L.c,d.dat]) (cA c d):=by
 have hc:=a.hc
 have h0:=ahR M d hd
 rw[hf]at h0
 cases d with
 |owner=>
  simp only[bH.dat]at h0 ⊢
  refine jR (ag9 a I hn) ?_
  simp[cP,cU,h0,hc,aN,gG]
  cases ig M _ <;> rfl
 |ground x=>
  simp only[bH.dat]at h0 ⊢
  refine jR (aeA a I hn x) ?_
  simp[cP,cU,h0,hc,aN,oX]
  cases gD M _ <;> rfl
 |enrol o g m=>
  simp only[bH.dat]at h0 ⊢
  refine jR (ahk a I hs o g m hd) ?_
  simp[cP,cU,h0,hc,aN,vN]
  cases dU M _ <;> rfl
 |leave o g=>
  simp only[bH.dat]at h0 ⊢
  refine jR (ag1 a I hs o g) ?_
  simp[cP,cU,h0,hc,aN,vM]
  cases fP M _ <;> rfl
 |bring o g m=>
  simp only[bH.dat]at h0 ⊢
  refine jR (ahq a I hs o g m hd) ?_
  simp[cP,cU,h0,hc,aN,vP]
  cases fW M _ <;> rfl
 |bear k=>
  simp only[bH.dat]at h0 ⊢
  refine jR (aib a I hs k) ?_
  simp[cP,cU,h0,hc,aN,wN]
  cases iZ M _ <;> rfl
 |cut k=>
  simp only[bH.dat]at h0 ⊢
  refine jR (alK a I hs (by omega) k) ?_
  simp[cP,cU,h0,hc,aN,yd]
  cases jF M _ <;> rfl
 |tear k p=>
  simp only[bH.dat]at h0 ⊢
  refine jR (adk a I hs k p (by omega)) ?_
  simp[cP,cU,h0,hc,aN,jo]
  cases fD M _ <;> rfl
 |sell k o=>
  simp only[bH.dat]at h0 ⊢
  refine jR (ah1 a I hs (by omega) k o) ?_
  simp[cP,cU,h0,hc,aN,wJ]
  cases dG M _ <;> rfl
 |move k g=>
  simp only[bH.dat]at h0 ⊢
  refine jR (akm a I hs (by omega) k g) ?_
  simp[cP,cU,h0,hc,aN,w6]
  cases dD M _ <;> rfl
 |die k=>
  simp only[bH.dat]at h0 ⊢
  refine jR (alp a I hs k (by omega)) ?_
  simp[cP,cU,h0,hc,aN,xZ]
  cases lu M _ <;> rfl
 |yQ x y=>
  simp only[bH.dat]at h0 ⊢
  refine jR (ahc a I hs (by omega) x y) ?_
  simp[cP,cU,h0,hc,aN,vO]
  cases fV M _ <;> rfl
 |part x=>
  simp only[bH.dat]at h0 ⊢
  refine jR (aj6 a I hs (by omega) x) ?_
  simp[cP,cU,h0,hc,aN,wz]
  cases jT M _ <;> rfl
 |pass e h=>
  simp only[bH.dat]at h0 ⊢
  refine jR (akn a I hs (by omega) e h) ?_
  simp[cP,cU,h0,hc,aN,sY]
  cases fJ M _ <;> rfl
 |heir e g x=>
  simp only[bH.dat]at h0 ⊢
  refine jR (aiQ a I hs (by omega) e g x) ?_
  simp[cP,cU,h0,hc,aN,qY]
  cases cR M _ <;> rfl
end
theorem afz{c:aK}{d:bH}{x:dJ}(h:cA c d=.no x):tR.lookup x.cls=some true:=by
 cases d <;> simp only[cA,tD,wu,JX,nH,Ac,qX,markB,Gg]at h <;> (repeat' split at h) <;> cases h <;> simp[tR]
def ab1:bH->Nat
 |.owner=>1
 |.heir ..=>1
 |_=>0
def dGr:bH->Nat
 |.ground _=>1
 |_=>0
def dBs:bH->Nat
 |.bring ..=>1
 |.bear _=>1
 |_=>0
theorem ZX{c c':aK}{d:bH}{r:Dat}(h:cA c d=.ok r c'):c'.count=c.count+(ab1 d:Int)/\c'.al.length=c.al.length+dGr d/\c'.bs.length=c.bs.length+dBs d/\(oO .none r=true->ab1 d=0/\dGr d=0/\dBs d=0):=by
 cases d <;> simp only[cA,tD,wu,JX,nH,Ac,qX,markB]at h <;> (repeat' split at h) <;> cases h <;> simp[ab1,dGr,dBs,oO,eX,yr,nZ,lI]
def tX(c:aK)(d:bH):aK:=match cA c d with
 |.ok _ c'=>c'
 |.no _=>c
def fM(c:aK):Dat:=.tuple [.int c.count,.int c.al.length,.int c.bs.length]
section
variable{M:Mo}{L:Lay}{c:aK}(a:At M L c){n s:Nat}(I:Inv n s c)(hs:s<=76)(hn:n<=199)
include I hn
omit hn in
theorem afy(d:bH)(hn:n<=199):Inv (n+1) (s+cost d) (tX c d):=by
 unfold tX
 cases h:cA c d with
 |ok r c'=>exact Yp I hn h
 |no x=>
  have h1:=I.hL
  have h2:=I.al
  exact I.of (by omega) I.gr (by show c.al.length<=_;omega) rfl rfl I.held (by show c.held.length+c.bs.length<=_;omega) I.hE ⟨I.Vu.g,fun b hb=>by have:=I.en b hb;omega⟩
include a hs
theorem aht(d:bH)(hd:Ly d)(hf:fL d=true):∃M' bs,qF M [ob L.c,d.dat,fM c]=.ok (fM (tX c d)) M'/\At M' { L with bs:=bs } (tX c d):=by
 have hc:=a.hc
 have h0:=alu a I hs hn d hd hf
 unfold tX
 cases e:cA c d with
 |no x=>
  rw[e]at h0
  have h0:_=_:=h0
  have h1:=afz e
  exact⟨M,L.bs,by simp[qF,J9,hc,aN,qK,h0,h1,oO],a⟩
 |ok r c'=>
  rw[e]at h0
  obtain⟨M',bs,h0,h2⟩:=h0
  obtain⟨q1,q2,q3,q4⟩:=ZX e
  refine⟨M',bs,?_,h2⟩
  have e1:(c'.al.length:Int)=c.al.length+(dGr d:Int):=by omega
  have e2:(c'.bs.length:Int)=c.bs.length+(dBs d:Int):=by omega
  cases hr:oO .none r with
  |true=>
   obtain⟨z1,z2,z3⟩:=q4 hr
   simp[z1,z2,z3]at q1 e1 e2
   simp[qF,J9,hc,aN,qK,h0,hr,fM,q1,e1,e2]
  |false=>
   clear q4 q2 q3 e hf hd
   cases d <;> simp[ab1,dGr,dBs]at q1 e1 e2 <;> simp[qF,J9,hc,aN,qK,h0,hr,fM,q1,e1,e2] <;> simp[bH.dat]
end
def LQ(f:Int):Int:=if f=9 then -1 else if f=8 then 3 else if f=7 then 2 else if f=6 then 1 else if f=5 then 1 else 0
def Mp(d f:Int):Int:=O4 0 (if d+LQ f < 9 then d+LQ f else 9)
def Qa(x f:List Int):List Int:=(x.zip f).map fun p=>Mp p.1 p.2
theorem acY(M:Mo)(x0 x1:Option Cell)(acc:List Dat)(d f:Int)(x5:Option Cell)(hf:0<=f/\f < 10)(hl:acc.length < 1000):∃x5',Nq M [x0,x1,some (.mut acc),some (.dat (.int d)),some (.dat (.int f)),x5]=.next [x0,x1,some (.mut (acc++[.int (Mp d f)])),some (.dat (.int d)),some (.dat (.int f)),x5'] M:=by
 have hl2:acc.length < 100000:=by omega
 have key:∀k:Nat,k < 10->([0,0,0,0,0,1,1,2,3,-1]:List Int)[k]?=some (LQ k):=by decide
 obtain⟨k,rfl⟩:∃k:Nat,f=k:=⟨f.toNat,by omega⟩
 have hk:=key k (by omega)
 have h2:atI (([0,0,0,0,0,1,1,2,3,-1]:List Int).map PyData.int) (k:Int)=some (.int (LQ k)):=atI_nat (by rw[aqQ,hk];rfl)
 refine⟨some (.dat (.int (LQ k))),?_⟩
 have h3:aW (aF 5) (gOf (aA aU (bA (ak (qC (.int 0)) (ak (qC (.int 0)) (ak (qC (.int 0)) (ak (qC (.int 0)) (ak (qC (.int 0)) (ak (qC (.int 1)) (ak (qC (.int 1)) (ak (qC (.int 2)) (ak (qC (.int 3)) (ak (fH R3 (qC (.int 1))) au))))))))))) (ao 4))) M [x0,x1,some (.mut acc),some (.dat (.int d)),some (.dat (.int k)),x5]=.next [x0,x1,some (.mut acc),some (.dat (.int d)),some (.dat (.int k)),some (.dat (.int (LQ k)))] M:=by
  show(((match atI (([0,0,0,0,0,1,1,2,3,-1]:List Int).map PyData.int) (k:Int) with
   |some d=>Out.ok d
   |none=>.bad).at M).then _ fun d M'=>_)=_
  rw[h2]
  rfl
 show aD _ _ _ _=_
 rw[aiW,h3]
 simp[hl2,Mp,O4]
theorem Vs(M:Mo)(x0 x1:Option Cell):∀(ps:List (Int×Int)) (acc:List Dat) (x3 x4 x5:Option Cell),(∀p∈ps,0<=p.2/\p.2 < 10)->acc.length+ps.length<=500->∃x3' x4' x5',gQ (bL [3,4]) Nq (ps.map pD) M [x0,x1,some (.mut acc),x3,x4,x5]=.next [x0,x1,some (.mut (acc++ps.map fun p=>.int (Mp p.1 p.2))),x3',x4',x5'] M
 |[],acc,x3,x4,x5,_,_=>⟨x3,x4,x5,by simp[gQ]⟩
 |p::ps,acc,x3,x4,x5,h,hl=>by
  rw[aqS]at hl
  obtain⟨x5',e⟩:=acY M x0 x1 acc p.1 p.2 x5 (h p aqK) (by omega)
  obtain⟨y3,y4,y5,ih⟩:=Vs M x0 x1 ps (acc++[.int (Mp p.1 p.2)]) (some (.dat (.int p.1))) (some (.dat (.int p.2))) x5' (fun q hq=>h q (aqJ _ hq)) (by simp;omega)
  refine⟨y3,y4,y5,?_⟩
  rw[aqI,jG (ρ1:=[x0,x1,some (.mut acc),some (.dat (.int p.1)),some (.dat (.int p.2)),x5]) (by simp[pD]) e,ih]
  simp
theorem ahM(M:Mo)(x f:List Int)(hx:x.length<=100)(hf:∀d∈f,0<=d/\d < 10):Kc M [aM x,lI f]=.ok (aM (Qa x f)):=by
 obtain⟨y3,y4,y5,e⟩:=Vs M (some (.dat (aM x))) (some (.dat (lI f))) (x.zip f) [] none none none (fun p hp=>hf _ (List.of_mem_zip hp).2) (by simp;omega)
 simp[Kc,Zt,GD,e,Qa]
def Fp(f:List Int)(m:Int)(x:List Int):List Int:=if m < 4 then Qa x f else yO f m
theorem abT(M:Mo)(x f:List Int)(m:Int)(hx:x.length<=100)(hl:f.length<=1000)(hf:∀d∈f,0<=d/\d < 10):vW M [lI f,.int m,aM x]=.ok (aM (Fp f m x)):=by
 have h1:=ahM M x f hx hf
 have h2:=U6 M f m hl
 unfold Fp
 by_cases h:m < 4 <;> simp[vW,JH,h,h1,h2]
theorem abl{x:List Int}(h:x.length=6)(h2:∀d∈x,0<=d/\d < 10):cV x=true:=by
 unfold cV
 simp only[aqF,decide_eq_true_eq,aqZ]
 refine⟨h,fun d hd=>?_⟩
 have:=h2 d hd
 omega
theorem acV{x f:List Int}(hx:x.length=6)(hf:f.length=6):cV (Qa x f)=true:=by
 refine abl (by simp[Qa];omega) fun d hd=>?_
 obtain⟨p,hp,rfl⟩:=aqR.mp hd
 unfold Mp O4
 split <;> split <;> omega
theorem ach{f x:List Int}{m:Int}(hx:x.length=6)(hl:f.length=6)(hf:∀d∈f,0<=d/\d < 10):cV (Fp f m x)=true:=by
 unfold Fp
 split
 ·exact acV hx hl
 ·refine abl ?_ (afK hf)
  unfold yO
  split
  ·simpa using hl
  ·split
   ·simpa using hl
   ·exact hl
def j7(f many:Int)(sure:Bool):Int:=if sure then 1+f % (if many > 1 then many else 1) else f % (many+2)
theorem ZF(M:Mo)(f many:Int)(sure:Bool)(hm:0<=many):jH M [.int f,.int many,.bool sure]=.ok (.int (j7 f many sure)):=by
 have h2:0 < many+2:=by omega
 have h3:0 < (if 1 < many then many else 1):=by split <;> omega
 cases sure
 ·simp[jH,WM,j7,h2]
 ·simp[jH,WM,j7,h3]
theorem Bs{f many:Int}{sure:Bool}(hf:0<=f/\f<=1000)(hm:0<=many):nB (j7 f many sure)=true:=by
 unfold j7 nB
 have key:∀m:Int,0 < m->0<=f % m/\f % m<=f:=fun m h=>⟨Int.emod_nonneg _ (by omega),by
  have h1:=Int.mul_ediv_add_emod f m
  have h2:=Int.mul_nonneg (by omega:0<=m) (Int.ediv_nonneg hf.1 (by omega:0<=m))
  omega⟩
 simp only[aqF,decide_eq_true_eq]
 cases sure
 ·have:=key (many+2) (by omega)
  simp
  omega
 ·have:=key (if many > 1 then many else 1) (by split <;> omega)
  simp only[if_true]
  omega
abbrev dd(M:Mo)(w:Str)(one two:Int)(p base:List Int)(n0 n1 n2:Int):Out Dat:=eZ M [.str w,.int one,.int two,lI p,.tuple [.int n0,.int n1,.int n2],aM base]
def dX(p:List Int):Bool:=!(p.getD 6 0==9)
def HS(p base:List Int):List Int:=Fp (p.drop 8) (p.getD 7 0) base
def grT(f:Int):Int:=if f=9 then 8 else if f=8 then 7 else if f=7 then 6 else if f=6 then 5 else if f=5 then 1 else if f=4 then 0 else f
def Fy(p base:List Int):List Int:=if p.getD 7 0 < 6 then[0,0,0,0,0,0] else HS p base
structure Pts(p base:List Int):Prop where
 len:p.length=14
 dig:∀d∈p,0<=d/\d < 10
 base:base.length=6
theorem ala{p:List Int}(h:p.length=14):∃a b c d e f g i j k l m n o:Int,p=[a,b,c,d,e,f,g,i,j,k,l,m,n,o]:=by
 match p,h with
 |[a,b,c,d,e,f,g,i,j,k,l,m,n,o],_=>exact⟨a,b,c,d,e,f,g,i,j,k,l,m,n,o,rfl⟩
theorem Pts.mark{p base:List Int}(P:Pts p base):cV (HS p base)=true:=ach P.base (by rw[arT,P.len]) fun d hd=>P.dig d (List.mem_of_mem_drop hd)
theorem Pts.bring{p base:List Int}(P:Pts p base):cV (Fy p base)=true:=by
 unfold Fy
 split
 ·decide
 ·exact P.mark
section
variable(M:Mo){p base:List Int}(P:Pts p base)(one two n0 n1 n2:Int)(h0:0<=n0)(h1:0<=n1)(h2:0<=n2)
include P h0 h1 h2
theorem Zd :
  dd M "owner" one two p base n0 n1 n2=.ok (bH.dat (.owner))/\
  dd M "ground" one two p base n0 n1 n2=.ok (bH.dat (.ground (grT (p.getD 7 0)+4 * (if dX p then 0 else 1))))/\
  dd M "enrol" one two p base n0 n1 n2=.ok (bH.dat (.enrol (j7 one n0 (dX p)) (j7 two n1 (dX p)) (HS p base)))/\
  dd M "bring" one two p base n0 n1 n2=.ok (bH.dat (.bring (j7 one n0 (dX p)) (j7 two n1 (dX p)) (Fy p base)))/\
  dd M "leave" one two p base n0 n1 n2=.ok (bH.dat (.leave (j7 one n0 (dX p)) (j7 two n1 (dX p))))/\
  dd M "heir" one two p base n0 n1 n2=.ok (bH.dat (.heir (j7 one n0 (dX p)) (j7 two n1 (dX p)) (p.getD 7 0 % 4)))/\
  dd M "pass" one two p base n0 n1 n2=.ok (bH.dat (.pass (j7 one n0 (dX p)) (j7 two n0 (dX p))))/\
  dd M "unite" one two p base n0 n1 n2=.ok (bH.dat (.yQ (j7 one n1 (dX p)) (j7 two n1 (dX p))))/\
  dd M "part" one two p base n0 n1 n2=.ok (bH.dat (.part (j7 one n1 (dX p))))/\
  dd M "tear" one two p base n0 n1 n2=.ok (bH.dat (.tear (j7 one n2 (dX p)) (p.getD 7 0 % 6)))/\
  dd M "sell" one two p base n0 n1 n2=.ok (bH.dat (.sell (j7 one n2 (dX p)) (j7 two n0 (dX p))))/\
  dd M "move" one two p base n0 n1 n2=.ok (bH.dat (.move (j7 one n2 (dX p)) (j7 two n1 (dX p))))/\
  dd M "bear" one two p base n0 n1 n2=.ok (bH.dat (.bear (j7 one n2 (dX p))))/\
  dd M "cut" one two p base n0 n1 n2=.ok (bH.dat (.cut (j7 one n2 (dX p))))/\
  dd M "die" one two p base n0 n1 n2=.ok (bH.dat (.die (j7 one n2 (dX p)))):=by
 have hm:=abT M base (p.drop 8) (p.getD 7 0) (by rw[P.base];decide) (by rw[arT,P.len];decide) fun d hd=>P.dig d (List.mem_of_mem_drop hd)
 have hr0:=fun f=>ZF M f n0 (dX p) h0
 have hr1:=fun f=>ZF M f n1 (dX p) h1
 have hr2:=fun f=>ZF M f n2 (dX p) h2
 have hd:=P.dig
 have hbr:Fy p base=if p.getD 7 0 < 6 then[0,0,0,0,0,0] else HS p base:=rfl
 have hmp:HS p base=Fp (p.drop 8) (p.getD 7 0) base:=rfl
 have hsb:dX p=!(p.getD 6 0==9):=rfl
 obtain⟨x0,x1,x2,x3,x4,x5,x6,x7,x8,x9,x10,x11,x12,x13,rfl⟩:=ala P.len
 generalize hp:[x0,x1,x2,x3,x4,x5,x6,x7,x8,x9,x10,x11,x12,x13]=p at *
 have h6:p.getD 6 0=x6:=by rw[←hp];rfl
 have h7:p.getD 7 0=x7:=by rw[←hp];rfl
 have h8:p.drop 8=[x8,x9,x10,x11,x12,x13]:=by rw[←hp];rfl
 have hx7:=hd x7 (by rw[←hp];simp)
 rw[h7,h8]at hm hmp
 rw[h7]at hbr
 rw[h6]at hsb
 simp only[h7]
 generalize dX p=su at *
 generalize HS p base=mk at *
 generalize Fy p base=br at *
 have c1:Rf.cutD (p.map PyData.int) (some 8) (some 14)=[PyData.int x8,.int x9,.int x10,.int x11,.int x12,.int x13]:=by rw[←hp];rfl
 have c2:atI (p.map PyData.int) 7=some (.int x7):=by rw[←hp];rfl
 have c3:atI (p.map PyData.int) 6=some (.int x6):=by rw[←hp];rfl
 have hm:vW M [.list [PyData.int x8,.int x9,.int x10,.int x11,.int x12,.int x13],.int x7,aM base]=.ok (aM mk):=by rw[hmp];exact hm
 have key:∀k:Nat,k < 10->([0,1,2,3,0,1,5,6,7,8]:List Int)[k]?=some (grT k):=by decide
 have hk:atI (([0,1,2,3,0,1,5,6,7,8]:List Int).map PyData.int) x7=some (.int (grT x7)):=by
  obtain⟨k,rfl⟩:∃k:Nat,x7=k:=⟨x7.toNat,by omega⟩
  exact atI_nat (by rw[aqQ,key k (by omega)];rfl)
 simp at hk
 have hm4:∀z,decide (CMul 4 z)=true:=fun z=>afS (by decide)
 clear hp hd P
 refine⟨?_,?_,?_,?_,?_,?_,?_,?_,?_,?_,?_,?_,?_,?_,?_⟩
 ·simp[dd,eZ,jN,c1,c2,c3,hm,←hsb,hr0,hr1,hr2,bH.dat]
 ·cases su <;> simp[dd,eZ,jN,c1,c2,c3,hm,←hsb,hk,hm4,Rf.intD,bH.dat]
 ·simp[dd,eZ,jN,c1,c2,c3,hm,←hsb,hr0,hr1,hr2,bH.dat]
 ·by_cases h76:x7 < 6
  ·rw[if_pos h76]at hbr
   simp[dd,eZ,jN,c1,c2,c3,hm,←hsb,hr0,hr1,hr2,bH.dat,h76,hbr]
  ·rw[if_neg h76]at hbr
   simp[dd,eZ,jN,c1,c2,c3,hm,←hsb,hr0,hr1,hr2,bH.dat,h76,hbr]
 ·simp[dd,eZ,jN,c1,c2,c3,hm,←hsb,hr0,hr1,hr2,bH.dat]
 ·simp[dd,eZ,jN,c1,c2,c3,hm,←hsb,hr0,hr1,hr2,bH.dat]
 ·simp[dd,eZ,jN,c1,c2,c3,hm,←hsb,hr0,hr1,hr2,bH.dat]
 ·simp[dd,eZ,jN,c1,c2,c3,hm,←hsb,hr0,hr1,hr2,bH.dat]
 ·simp[dd,eZ,jN,c1,c2,c3,hm,←hsb,hr0,hr1,hr2,bH.dat]
 ·simp[dd,eZ,jN,c1,c2,c3,hm,←hsb,hr0,hr1,hr2,bH.dat]
 ·simp[dd,eZ,jN,c1,c2,c3,hm,←hsb,hr0,hr1,hr2,bH.dat]
 ·simp[dd,eZ,jN,c1,c2,c3,hm,←hsb,hr0,hr1,hr2,bH.dat]
 ·simp[dd,eZ,jN,c1,c2,c3,hm,←hsb,hr0,hr1,hr2,bH.dat]
 ·simp[dd,eZ,jN,c1,c2,c3,hm,←hsb,hr0,hr1,hr2,bH.dat]
 ·simp[dd,eZ,jN,c1,c2,c3,hm,←hsb,hr0,hr1,hr2,bH.dat]
theorem Zq{w:Str}(hw:w∈(["owner","ground","enrol","bring","leave","heir","pass","unite","part","tear","sell","move","bear","cut","die"]:List Str))(ho:0<=one/\one<=1000)(ht:0<=two/\two<=1000):∃d:bH,eZ M [.str w,.int one,.int two,lI p,.tuple [.int n0,.int n1,.int n2],aM base]=.ok d.dat/\fL d=true/\Ly d:=by
 have r10:=Bs (f:=one) (sure:=dX p) ho h0
 have r11:=Bs (f:=one) (sure:=dX p) ho h1
 have r12:=Bs (f:=one) (sure:=dX p) ho h2
 have r20:=Bs (f:=two) (sure:=dX p) ht h0
 have r21:=Bs (f:=two) (sure:=dX p) ht h1
 have r22:=Bs (f:=two) (sure:=dX p) ht h2
 have m1:=P.mark
 have m2:=P.bring
 have l1:(HS p base).length<=1000:=by rw[fY m1];decide
 have l2:(Fy p base).length<=1000:=by rw[fY m2];decide
 have h7:0<=p.getD 7 0/\p.getD 7 0 < 10:=P.dig _ (by
  have:=P.len
  rw[List.getD_eq_getElem?_getD,aqH (by omega)]
  exact arl _)
 have q4:nB (p.getD 7 0 % 4)=true:=by unfold nB;simp only[aqF,decide_eq_true_eq];omega
 have q6:plB (p.getD 7 0 % 6)=true:=by unfold plB;simp only[aqF,decide_eq_true_eq];omega
 have qg:nB (grT (p.getD 7 0)+4 * (if dX p then 0 else 1))=true:=by
  unfold nB grT
  simp only[aqF,decide_eq_true_eq]
  split <;> (repeat' split) <;> omega
 simp only[aqV,arh,or_false]at hw
 obtain⟨d0,d1,d2,d3,d4,d5,d6,d7,d8,d9,d10,d11,d12,d13,d14⟩:=Zd M P one two n0 n1 n2 h0 h1 h2
 rcases hw with rfl|rfl|rfl|rfl|rfl|rfl|rfl|rfl|rfl|rfl|rfl|rfl|rfl|rfl|rfl
 ·exact⟨_,d0,by simp[fL,r10,r11,r12,r20,r21,r22,m1,m2,q4,q6,-List.getD_eq_getElem?_getD],by first | trivial | assumption⟩
 ·exact⟨_,d1,qg,by first | trivial | assumption⟩
 ·exact⟨_,d2,by simp[fL,r10,r11,r12,r20,r21,r22,m1,m2,q4,q6,-List.getD_eq_getElem?_getD],by first | trivial | assumption⟩
 ·exact⟨_,d3,by simp[fL,r10,r11,r12,r20,r21,r22,m1,m2,q4,q6,-List.getD_eq_getElem?_getD],by first | trivial | assumption⟩
 ·exact⟨_,d4,by simp[fL,r10,r11,r12,r20,r21,r22,m1,m2,q4,q6,-List.getD_eq_getElem?_getD],by first | trivial | assumption⟩
 ·exact⟨_,d5,by simp[fL,r10,r11,r12,r20,r21,r22,m1,m2,q4,q6,-List.getD_eq_getElem?_getD],by first | trivial | assumption⟩
 ·exact⟨_,d6,by simp[fL,r10,r11,r12,r20,r21,r22,m1,m2,q4,q6,-List.getD_eq_getElem?_getD],by first | trivial | assumption⟩
 ·exact⟨_,d7,by simp[fL,r10,r11,r12,r20,r21,r22,m1,m2,q4,q6,-List.getD_eq_getElem?_getD],by first | trivial | assumption⟩
 ·exact⟨_,d8,by simp[fL,r10,r11,r12,r20,r21,r22,m1,m2,q4,q6,-List.getD_eq_getElem?_getD],by first | trivial | assumption⟩
 ·exact⟨_,d9,by simp[fL,r10,r11,r12,r20,r21,r22,m1,m2,q4,q6,-List.getD_eq_getElem?_getD],by first | trivial | assumption⟩
 ·exact⟨_,d10,by simp[fL,r10,r11,r12,r20,r21,r22,m1,m2,q4,q6,-List.getD_eq_getElem?_getD],by first | trivial | assumption⟩
 ·exact⟨_,d11,by simp[fL,r10,r11,r12,r20,r21,r22,m1,m2,q4,q6,-List.getD_eq_getElem?_getD],by first | trivial | assumption⟩
 ·exact⟨_,d12,by simp[fL,r10,r11,r12,r20,r21,r22,m1,m2,q4,q6,-List.getD_eq_getElem?_getD],by first | trivial | assumption⟩
 ·exact⟨_,d13,by simp[fL,r10,r11,r12,r20,r21,r22,m1,m2,q4,q6,-List.getD_eq_getElem?_getD],by first | trivial | assumption⟩
 ·exact⟨_,d14,by simp[fL,r10,r11,r12,r20,r21,r22,m1,m2,q4,q6,-List.getD_eq_getElem?_getD],by first | trivial | assumption⟩
end
abbrev words:List Str:=["owner","ground","enrol","bring","leave","heir","pass","unite","part","tear","sell","move","bear","cut","die"]
def Vb:List Str:=["tear","cut","bring","sell","move","enrol","bear","tear","cut","sell","move","unite","part","heir","pass","die","leave","ground","owner","enrol","tear","sell","bring","bear","cut"]
theorem ahT(M:Mo)(f:Int):∃w∈words,zE M [.int f]=.ok (.str w):=by
 have h1:0<=f % 25/\f % 25 < 25:=by omega
 obtain⟨k,hk⟩:∃k:Nat,f % 25=k:=⟨(f % 25).toNat,by omega⟩
 have hl:k < Vb.length:=by show k < 25;omega
 have h2:atI (Vb.map PyData.str) (k:Int)=some (.str Vb[k]):=atI_nat (by rw[aqQ,aqH hl];rfl)
 have h3:∀w∈Vb,w∈words:=by simp[Vb]
 refine⟨Vb[k],h3 _ (arl hl),?_⟩
 generalize Vb[k]=z at h2
 simp[Vb]at h2
 simp[zE,Kf,hk,h2]
def wV(h:Int):List (Str×Int×Int):=if h % 8=7 then[] else[("ground",0,0),("owner",0,0),("owner",0,0),("enrol",0,0),("enrol",1,0),("bring",0,0),("cut",0,0),("bring",1,0),("cut",1,0),("ground",0,0),("enrol",0,1)]
def Ja(r:Str×Int×Int):Dat:=.tuple [.str r.1,.int r.2.1,.int r.2.2]
theorem acq(M:Mo)(h:Int):uM M [.int h]=.ok (.list ((wV h).map Ja)):=by
 unfold wV
 by_cases e:h % 8=7 <;> simp[uM,Eh,e,Ja]
theorem ahv{h:Int}:∀r∈wV h,r.1∈words/\(0<=r.2.1/\r.2.1<=1000)/\0<=r.2.2/\r.2.2<=1000:=by
 unfold wV
 split
 ·simp
 ·simp
inductive Rch:Nat->aK->Prop where
 |nil:Rch 0 ⟨0,[],[],[],[],[]⟩
 |step {n:Nat} {c:aK} (d:bH):Rch n c->fL d=true->Rch (n+1) (tX c d)
 |le {n m:Nat} {c:aK}:Rch n c->n<=m->Rch m c
theorem Inv.mono{n s n' s':Nat}{c:aK}(I:Inv n s c)(h1:n<=n')(h2:s<=s'):Inv n' s' c:=
 I.of h1 I.gr (aq7 I.al h1) rfl rfl I.held (aq7 I.hL h2) I.hE ⟨I.Vu.g,fun b hb=>by have:=I.en b hb;omega⟩
theorem ahr(d:bH):cost d<=1:=by cases d <;> simp[cost]
theorem amF:Inv 0 0 ⟨0,[],[],[],[],[]⟩:=⟨⟨rfl,by simp,by simp,by simp,by simp,by simp,by simp⟩,by simp,by simp,by simp,by simp,by simp,by simp,by simp,by simp,by simp,by simp,by simp,by simp⟩
structure Now(M:Mo)(L:Lay)(n s:Nat)(c:aK):Prop where
 at_:At M L c
 inv:Inv n s c
 rch:Rch n c
theorem Now.done{M:Mo}{L:Lay}{n s:Nat}{c:aK}(N:Now M L n s c)(hs:s<=76)(hn:n<=199)(d:bH)(hd:Ly d)(hf:fL d=true):∃M' bs,qF M [ob L.c,d.dat,fM c]=.ok (fM (tX c d)) M'/\Now M' { L with bs:=bs } (n+1) (s+cost d) (tX c d):=by
 obtain⟨M',bs,h1,h2⟩:=aht N.at_ N.inv hs hn d hd hf
 exact⟨M',bs,h1,h2,afy N.inv d hn,.step d N.rch hf⟩
theorem aa8(x:Int){base:List Int}(h:base.length=6):Pts (rowOf x 14 10) base:=⟨aaV ..,adM (by decide) _ _,h⟩
theorem uQ(x:Int)(k:Nat)(h:k < 14):atI ((rowOf x 14 10).map PyData.int) (k:Int)=some (.int ((rowOf x 14 10).getD k 0))/\0<=(rowOf x 14 10).getD k 0/\(rowOf x 14 10).getD k 0<=9:=by
 have hl:k < (rowOf x 14 10).length:=by rw[aaV];exact h
 refine⟨Zu _ k hl,?_⟩
 rw[List.getD_eq_getElem?_getD,aqH hl]
 have:=adM (by decide) x 14 _ (arl hl)
 simp
 omega
theorem aep{M:Mo}{L:Lay}{n s:Nat}{c:aK}(N:Now M L n s c)(hs:s<=76)(hn:n<=199)(x1:Option Cell)(head:Int)(base:List Int)(hb:base.length=6)(i:Nat)(x:Int)(x8 x9 x10 x11 x12:Option Cell) :
  ∃d M' bs y8 y9 y10 y11,fL d=true/\Cd M [some (.dat (ob L.c)),x1,some (.dat (.int head)),some (.dat (fM c)),some (.dat (aM base)),some (.dat (.list ((wV head).map Ja))),some (.dat (.int i)),some (.dat (.int x)),x8,x9,x10,x11,x12]=.next [some (.dat (ob L.c)),x1,some (.dat (.int head)),some (.dat (fM (tX c d))),some (.dat (aM base)),some (.dat (.list ((wV head).map Ja))),some (.dat (.int i)),some (.dat (.int x)),y8,y9,y10,y11,x12] M'/\Now M' { L with bs:=bs } (n+1) (s+cost d) (tX c d):=by
 have h1:u9 M [.int x,.int 14,.int 10]=.ok (lI (rowOf x 14 10)):=Yu M x 14 10 (by decide) (by decide) (by decide)
 have P:=aa8 x hb
 obtain⟨r0,q0,q0'⟩:=uQ x 0 (by decide)
 obtain⟨r1,q1,q1'⟩:=uQ x 1 (by decide)
 obtain⟨r2,q2,q2'⟩:=uQ x 2 (by decide)
 obtain⟨r3,q3,q3'⟩:=uQ x 3 (by decide)
 obtain⟨r4,q4,q4'⟩:=uQ x 4 (by decide)
 obtain⟨r5,q5,q5'⟩:=uQ x 5 (by decide)
 generalize rowOf x 14 10=p at *
 generalize p.getD 0 0=d0 at *
 generalize p.getD 1 0=d1 at *
 generalize p.getD 2 0=d2 at *
 generalize p.getD 3 0=d3 at *
 generalize p.getD 4 0=d4 at *
 generalize p.getD 5 0=d5 at *
 obtain⟨w,hw,h2⟩:=ahT M (d0 * 10+d1)
 have hm:∀z,decide (CMul z 10)=true:=fun z=>mul_r (by decide)
 have c0:=N.inv.cnt.1
 simp only[Int.natCast_zero,Int.natCast_one,show((2:Nat):Int)=2 from rfl,show((3:Nat):Int)=3 from rfl,show((4:Nat):Int)=4 from rfl,show((5:Nat):Int)=5 from rfl]at r0 r1 r2 r3 r4 r5
 by_cases hi:i < (wV head).length
 ·have hi':(i:Int) < (wV head).length:=by omega
  have g:=aqH hi
  obtain⟨b1,b2,b3⟩:=ahv _ (arl hi)
  generalize (wV head)[i]=b at *
  obtain⟨d,e1,e2,e3⟩:=Zq M P b.2.1 b.2.2 c.count c.al.length c.bs.length c0 (by omega) (by omega) b1 b2 b3
  obtain⟨M',bs,e4,e5⟩:=N.done hs hn d e3 e2
  refine⟨d,M',bs,some (.dat (lI p)),some (.dat (.str b.1)),some (.dat (.int b.2.1)),some (.dat (.int b.2.2)),e2,?_,e5⟩
  have e1:eZ M [.str b.1,.int b.2.1,.int b.2.2,lI p,fM c,aM base]=.ok d.dat:=e1
  simp[Cd,h1,r0,r1,r2,r3,r4,r5,hm,h2,hi',g]
  simp[Ja,e1,e4]
 ·have hi':¬(i:Int) < (wV head).length:=by omega
  obtain⟨d,e1,e2,e3⟩:=Zq M P (d2 * 10+d3) (d4 * 10+d5) c.count c.al.length c.bs.length c0 (by omega) (by omega) hw (by omega) (by omega)
  obtain⟨M',bs,e4,e5⟩:=N.done hs hn d e3 e2
  refine⟨d,M',bs,some (.dat (lI p)),some (.dat (.str w)),some (.dat (.int (d2 * 10+d3))),some (.dat (.int (d4 * 10+d5))),e2,?_,e5⟩
  have e1:eZ M [.str w,.int (d2 * 10+d3),.int (d4 * 10+d5),lI p,fM c,aM base]=.ok d.dat:=e1
  simp[Cd,h1,r0,r1,r2,r3,r4,r5,hm,h2,hi']
  simp[e1,e4]
theorem Uy(x1:Option Cell)(head:Int)(base:List Int)(hb:base.length=6)(x12:Option Cell):∀(xs:List (Nat×Int)) (M:Mo) (L:Lay) (n:Nat) (c:aK) (x6 x7 x8 x9 x10 x11:Option Cell),Now M L n n c->n+xs.length<=76->
  ∃c' M' bs y6 y7 y8 y9 y10 y11,gQ (bL [6,7]) Cd (xs.map fun q=>PyData.tuple [.int q.1,.int q.2]) M [some (.dat (ob L.c)),x1,some (.dat (.int head)),some (.dat (fM c)),some (.dat (aM base)),some (.dat (.list ((wV head).map Ja))),x6,x7,x8,x9,x10,x11,x12]=.next [some (.dat (ob L.c)),x1,some (.dat (.int head)),some (.dat (fM c')),some (.dat (aM base)),some (.dat (.list ((wV head).map Ja))),y6,y7,y8,y9,y10,y11,x12] M'/\Now M' { L with bs:=bs } (n+xs.length) (n+xs.length) c'
 |[],M,L,n,c,x6,x7,x8,x9,x10,x11,N,_=>⟨c,M,L.bs,x6,x7,x8,x9,x10,x11,rfl,N⟩
 |q::xs,M,L,n,c,x6,x7,x8,x9,x10,x11,N,hl=>by
  rw[aqS]at hl
  obtain⟨d,M1,bs,y8,y9,y10,y11,h0,h1,N1⟩:=aep N (by omega) (by omega) x1 head base hb q.1 q.2 x8 x9 x10 x11 x12
  have N1:Now M1 { L with bs:=bs } (n+1) (n+1) (tX c d):=⟨N1.at_,N1.inv.mono (aq2 _) (by have:=ahr d;omega),N1.rch⟩
  obtain⟨c',M',bs',z6,z7,z8,z9,z10,z11,h2,N2⟩:=Uy x1 head base hb x12 xs M1 { L with bs:=bs } (n+1) (tX c d) (some (.dat (.int q.1))) (some (.dat (.int q.2))) y8 y9 y10 y11 N1 (by omega)
  refine⟨c',M',bs',z6,z7,z8,z9,z10,z11,?_,?_⟩
  ·rw[aqI,jG (ρ1:=[some (.dat (ob L.c)),x1,some (.dat (.int head)),some (.dat (fM c)),some (.dat (aM base)),some (.dat (.list ((wV head).map Ja))),some (.dat (.int q.1)),some (.dat (.int q.2)),x8,x9,x10,x11,x12]) (by simp) h1]
   exact h2
  ·rw[aqS,show n+(xs.length+1)=n+1+xs.length by omega]
   exact N2
theorem abU{M:Mo}{L:Lay}{n s:Nat}{c:aK}(N:Now M L n s c)(hs:s<=75)(hn:n<=198)(x1 x2 x4 x5 x6 x7 x8 x9 x10 x11 x12:Option Cell) :
  ∃c' M' bs,Hh M [some (.dat (ob L.c)),x1,x2,some (.dat (fM c)),x4,x5,x6,x7,x8,x9,x10,x11,x12]=.next [some (.dat (ob L.c)),x1,x2,some (.dat (fM c')),x4,x5,x6,x7,x8,x9,x10,x11,x12] M'/\Now M' { L with bs:=bs } (n+2) (s+1) c':=by
 obtain⟨M1,bs1,h1,N1⟩:=N.done (by omega) (by omega) (.bring 1 1 [0,0,0,0,0,0]) (by simp[Ly]) (by decide)
 have hl:=N1.inv.hL
 have hc:cost (.bring 1 1 [0,0,0,0,0,0])=1:=rfl
 generalize tX c (.bring 1 1 [0,0,0,0,0,0])=c1 at *
 obtain⟨M2,bs2,h2,N2⟩:=N1.done (by omega) (by omega) (.cut c1.bs.length) trivial (by simp only[fL,nB,aqF,decide_eq_true_eq];omega)
 refine⟨_,M2,bs2,?_,N2.at_,N2.inv,N2.rch⟩
 have h1:qF M [ob L.c,.tuple [.str "bring",.int 1,.int 1,.tuple [.int 0,.int 0,.int 0,.int 0,.int 0,.int 0]],fM c]=.ok (fM c1) M1:=h1
 have h2:qF M1 [ob L.c,.tuple [.str "cut",.int c1.bs.length],fM c1]=_:=h2
 simp[Hh,h1]
 have e:atI [PyData.int c1.count,.int c1.al.length,.int c1.bs.length] 2=some (.int c1.bs.length):=rfl
 simp[fM]at h2 ⊢
 simp[h2]
theorem Rg(x1 x2 x4 x5 x6 x7 x8 x9 x10 x11:Option Cell):∀(xs:List Dat) (M:Mo) (L:Lay) (n s:Nat) (c:aK) (x12:Option Cell),Now M L n s c->n+2 * xs.length<=198->s+xs.length<=75->
  ∃c' M' bs y12,gQ (aF 12) Hh xs M [some (.dat (ob L.c)),x1,x2,some (.dat (fM c)),x4,x5,x6,x7,x8,x9,x10,x11,x12]=.next [some (.dat (ob L.c)),x1,x2,some (.dat (fM c')),x4,x5,x6,x7,x8,x9,x10,x11,y12] M'/\Now M' { L with bs:=bs } (n+2 * xs.length) (s+xs.length) c'
 |[],M,L,n,s,c,x12,N,_,_=>⟨c,M,L.bs,x12,rfl,N⟩
 |q::xs,M,L,n,s,c,x12,N,h1,h2=>by
  rw[aqS]at h1 h2
  obtain⟨c1,M1,bs1,e1,N1⟩:=abU N (by omega) (by omega) x1 x2 x4 x5 x6 x7 x8 x9 x10 x11 (some (.dat q))
  obtain⟨c',M',bs',y12,e2,N2⟩:=Rg x1 x2 x4 x5 x6 x7 x8 x9 x10 x11 xs M1 { L with bs:=bs1 } (n+2) (s+1) c1 (some (.dat q)) N1 (by omega) (by omega)
  refine⟨c',M',bs',y12,?_,?_⟩
  ·rw[jG (ρ1:=[some (.dat (ob L.c)),x1,x2,some (.dat (fM c)),x4,x5,x6,x7,x8,x9,x10,x11,some (.dat q)]) (by simp) e1]
   exact e2
  ·rw[aqS,show n+2 * (xs.length+1)=n+2+2 * xs.length by omega,show s+(xs.length+1)=s+1+xs.length by omega]
   exact N2
def Xf:aK:=⟨0,[],[],[],[],[]⟩
theorem ahN{M:Mo}{L:Lay}(a:At M L Xf)(cells:List Int)(hl:cells.length<=43)(head:Int):∃c M' L',L'.c=L.c/\Bw M [ob L.c,lI cells,.int head]=.ok (fM c) M'/\Now M' L' 99 71 c:=by
 have hb:=U5 (head / 512)
 have h1:=ac9 M (head / 512)
 have h2:=acq M head
 have N0:Now M L 0 0 Xf:=⟨a,amF,.nil⟩
 have hen:rN 0 (cells.map PyData.int)=(cells.mapIdx fun i x=>(i,x)).map fun(q:Nat×Int)=>PyData.tuple [.int q.1,.int q.2]:=by
  unfold rN
  apply aq5
  intro i
  simp
  cases cells[i]? <;> simp
 obtain⟨c1,M1,bs1,y6,y7,y8,y9,y10,y11,e1,N1⟩:=Uy (some (.dat (lI cells))) head (Iv (head / 512)) hb none (cells.mapIdx fun i x=>(i,x)) M L 0 Xf none none none none none none N0 (by simp;omega)
 simp only[List.length_mapIdx,Nat.zero_add]at N1
 have hd:∀z,decide (CDiv z 512)=true:=fun z=>decide_eq_true ⟨by decide,by decide⟩
 have hd8:∀z,decide (CDiv z 8)=true:=fun z=>decide_eq_true ⟨by decide,by decide⟩
 have hd64:∀z,decide (CDiv z 64)=true:=fun z=>decide_eq_true ⟨by decide,by decide⟩
 have hm:∀z,decide (CMul z 4)=true:=fun z=>mul_r (by decide)
 have z0:fM Xf=.tuple [.int 0,.int 0,.int 0]:=rfl
 rw[z0]at e1
 by_cases hh:head / 8 % 8=1
 ·obtain⟨k,hk,hk2⟩:∃k:Nat,head / 64 % 8 * 4=k/\k<=28:=⟨(head / 64 % 8 * 4).toNat,by omega,by omega⟩
  obtain⟨c2,M2,bs2,y12,e2,N2⟩:=Rg (some (.dat (lI cells))) (some (.dat (.int head))) (some (.dat (aM (Iv (head / 512))))) (some (.dat (.list ((wV head).map Ja)))) y6 y7 y8 y9 y10 y11 (gH 0 k) M1 { L with bs:=bs1 } cells.length cells.length c1 none N1 (by simp[gH];omega) (by simp[gH];omega)
  refine⟨c2,M2,{ L with bs:=bs2 },rfl,?_,N2.at_,N2.inv.mono (by simp[gH];omega) (by simp[gH];omega),N2.rch.le (by simp[gH];omega)⟩
  have k1:(k:Int)<=100000:=by omega
  have k2 : -100000<=(k:Int):=by omega
  simp[Bw,Qt,hd,h1,h2,hen,e1,hd8,hh,hd64,hm,hk,k1,k2,e2]
 ·refine⟨c1,M1,{ L with bs:=bs1 },rfl,?_,N1.at_,N1.inv.mono (by omega) (by omega),N1.rch.le (by omega)⟩
  simp[Bw,Qt,hd,h1,h2,hen,e1,hd8,hh]
def L0:Lay:=⟨0,2,5,7,[],[]⟩
theorem amw:∃M L,L.c=0/\lW [⟨"Commons",[]⟩] [ob 0]=.ok .none M/\At M L Xf:=by
 refine⟨_,L0,rfl,by simp[lW,xX,jU,uE,xV,uY,Aj,yU,Eb];rfl,?_⟩
 exact⟨rfl,⟨_,_,rfl⟩,rfl,⟨_,rfl⟩,rfl,fun i h b z _=>(by cases z),by decide,fun p hp=>(by cases hp)⟩
theorem Yq(n:Nat)(x:List Int):lk (n+1) (aM x)=true:=by
 show lk (n+1) (.tuple (x.map PyData.int))=true
 rw[lk]
 exact afo n x
theorem ajf(n:Nat)(x:Option (List Int)):lk (n+1) (mX x)=true:=by
 cases x with
 |none=>rw[mX,lk]
 |some e=>exact Yq n e
theorem alN(n:Nat)(f:Fi):lk (n+2) f.dat=true:=by
 cases f <;> simp[Fi.dat,lk,uU]
theorem alJ(n:Nat)(e:En):lk (n+2) e.dat=true:=by
 cases e <;> simp[En.dat,lk,uU]
theorem agC(n:Nat)(b:dH):lk (n+4) (eE b)=true:=by
 have h1:uU (n+2) (b.en.map En.dat)=true:=vY.mpr fun d hd=>by
  obtain⟨e,_,rfl⟩:=aqR.mp hd
  exact alJ n e
 have h2:=alN n b.fi
 have h3:=ajf (n+2) b.sd.due
 simp[eE,lk,uU,h1,h2,h3]
theorem ahw(c:aK):lk 9 (jX c)=true:=by
 have h1:∀n,uU (n+2) ((List.range c.al.length).map (XC c))=true:=fun n=>vY.mpr fun d hd=>by
  obtain⟨e,_,rfl⟩:=aqR.mp hd
  simp[XC,lk,uU]
 have h2:∀n,uU (n+2) (c.held.map gM)=true:=fun n=>vY.mpr fun d hd=>by
  obtain⟨e,_,rfl⟩:=aqR.mp hd
  simp[gM,lk,uU]
 have h3:∀n,uU (n+4) (c.bs.map eE)=true:=fun n=>vY.mpr fun d hd=>by
  obtain⟨e,_,rfl⟩:=aqR.mp hd
  exact agC n e
 simp[jX,lk,uU,h1,h2,h3]
theorem Vx(M:Mo)(c:aK):jx 10 M [jX c,jX c]=.ok (.bool true):=Gk M 9 _ (ahw c)
def Spn(M:Mo)(L:Lay)(n s:Nat)(o:aZ Dat):Res->Prop
 |.ok d c'=>∃M' L',L'.c=L.c/\o=.ok d M'/\At M' L' c'/\Inv n s c'
 |.no x=>o=.exc x M
theorem aie{M:Mo}{L:Lay}{c:aK}{n s:Nat}(I:Inv n s c)(hn:n<=199){d:bH}{o:aZ Dat}(h:Sp M L o (cA c d)):Spn M L (n+1) (s+cost d) o (cA c d):=by
 cases e:cA c d with
 |no x=>
  rw[e]at h
  exact h
 |ok r c'=>
  rw[e]at h
  obtain⟨M',bs,h1,h2⟩:=h
  exact⟨M',{ L with bs:=bs },rfl,h1,h2,Yp I hn e⟩
theorem Tn{M:Mo}{L:Lay}{c:aK}{n s:Nat}(a:At M L c)(I:Inv n s c)(hs:s<=1000):pN M [ob L.c]=.ok (jX c):=by
 have:=I.hL
 exact ahB a I.gr (by omega) (by omega)
theorem ahu(l:List Int)(lo hi:Option Int):Rf.cutD (l.map PyData.int) lo hi=(Rf.cutD l lo hi).map PyData.int:=by
 unfold Rf.cutD
 rw[aqO,List.map_take,List.map_drop]
theorem agp{α:Type}(l:List α)(a b:Nat)(h:a<=b):(Rf.cutD l (some (a:Int)) (some (b:Int))).length<=b - a:=by
 unfold Rf.cutD
 rw[HT.sIx_nat,HT.sIx_nat,List.length_take]
 omega
theorem ajd(M:Mo)(x:Int):∃y,LC M [.int x]=.ok (.int y):=by
 have hp:decide (CPow 10 30)=true:=decide_eq_true ⟨by decide,by decide,by decide⟩
 by_cases h:x < 0
 ·exact⟨_,by simp[LC,W7,hp,h];rfl⟩
 ·exact⟨_,by simp[LC,W7,hp,h];rfl⟩
theorem acu(M:Mo)(v x t:Int):∃y,Hl M [.int v,.int x,.int t]=.ok (.int y):=by
 obtain⟨y,h⟩:=ajd M (x / 13)
 have hd:∀z,decide (CDiv z 13)=true:=fun z=>decide_eq_true ⟨by decide,by decide⟩
 by_cases e:x % 13=t
 ·exact⟨y,by simp[Hl,W0,e,hd,h]⟩
 ·exact⟨v,by simp[Hl,W0,e]⟩
def vD(c:aK):Res->Dat
 |.ok d c'=>.tuple [.str "",d,jX c']
 |.no x=>.tuple [.str x.cls,.none,jX c]
def Spt(M:Mo)(L:Lay)(n s:Nat)(o:aZ Dat):Res->Prop
 |.ok d c'=>∃M' L',L'.c=L.c/\o=.ok (.tuple [.str "",d]) M'/\At M' L' c'/\Inv n s c'
 |.no x=>o=.ok (.tuple [.str x.cls,.none]) M
@[simp]theorem ap7 (c:aK):aU (jX c) (.int 0)=.ok (lI c.own):=rfl
@[simp]theorem ao0 (c:aK):aU (jX c) (.int 1)=.ok (.list ((List.range c.al.length).map (XC c))):=rfl
@[simp]theorem apc (c:aK):aU (jX c) (.int 2)=.ok (.list (c.held.map gM)):=rfl
@[simp]theorem ao8 (c:aK):aU (jX c) (.int 3)=.ok (.list (c.bs.map eE)):=rfl
theorem mH(M:Mo)(w:Str)(x head n0 n1 n2:Int){d:Dat}(h:dd M w ((rowOf x 14 10).getD 2 0 * 10+(rowOf x 14 10).getD 3 0) ((rowOf x 14 10).getD 4 0 * 10+(rowOf x 14 10).getD 5 0) (rowOf x 14 10) (Iv (head / 512)) n0 n1 n2=.ok d):jE M [.str w,.int x,.tuple [.int n0,.int n1,.int n2],.int head]=.ok d:=by
 have h1:u9 M [.int x,.int 14,.int 10]=.ok (lI (rowOf x 14 10)):=Yu M x 14 10 (by decide) (by decide) (by decide)
 have h2:=ac9 M (head / 512)
 obtain⟨r2,_⟩:=uQ x 2 (by decide)
 obtain⟨r3,_⟩:=uQ x 3 (by decide)
 obtain⟨r4,_⟩:=uQ x 4 (by decide)
 obtain⟨r5,_⟩:=uQ x 5 (by decide)
 generalize rowOf x 14 10=p at *
 generalize p.getD 2 0=d2 at *
 generalize p.getD 3 0=d3 at *
 generalize p.getD 4 0=d4 at *
 generalize p.getD 5 0=d5 at *
 have hm:∀z,decide (CMul z 10)=true:=fun z=>mul_r (by decide)
 have hd:∀z,decide (CDiv z 512)=true:=fun z=>decide_eq_true ⟨by decide,by decide⟩
 simp only[show((2:Nat):Int)=2 from rfl,show((3:Nat):Int)=3 from rfl,show((4:Nat):Int)=4 from rfl,show((5:Nat):Int)=5 from rfl]at r2 r3 r4 r5
 unfold dd at h
 simp[jE,RJ,h1,h2,r2,r3,r4,r5,hm,hd,h]
theorem adN(M:Mo)(c:aK)(hc:0<=c.count)(x head:Int):(∃a b,jE M [.str "leave",.int x,fM c,.int head]=.ok (.tuple [.str "leave",.int a,.int b]))/\(∃a b e,cV e=true/\jE M [.str "enrol",.int x,fM c,.int head]=.ok (.tuple [.str "enrol",.int a,.int b,aM e]))/\
  (∃a,jE M [.str "bear",.int x,fM c,.int head]=.ok (.tuple [.str "bear",.int a]))/\(∃a,jE M [.str "cut",.int x,fM c,.int head]=.ok (.tuple [.str "cut",.int a]))/\(∃a,jE M [.str "die",.int x,fM c,.int head]=.ok (.tuple [.str "die",.int a]))/\(∃a,jE M [.str "part",.int x,fM c,.int head]=.ok (.tuple [.str "part",.int a]))/\
  (∃a b,jE M [.str "tear",.int x,fM c,.int head]=.ok (.tuple [.str "tear",.int a,.int b]))/\(∃a b,jE M [.str "sell",.int x,fM c,.int head]=.ok (.tuple [.str "sell",.int a,.int b]))/\(∃a b,jE M [.str "move",.int x,fM c,.int head]=.ok (.tuple [.str "move",.int a,.int b]))/\(∃a b,jE M [.str "unite",.int x,fM c,.int head]=.ok (.tuple [.str "unite",.int a,.int b]))/\(∃a b,jE M [.str "pass",.int x,fM c,.int head]=.ok (.tuple [.str "pass",.int a,.int b])):=by
 have P:=aa8 x (U5 (head / 512))
 obtain⟨_,_,d2,_,d4,_,d6,d7,d8,d9,d10,d11,d12,d13,d14⟩:=Zd M P ((rowOf x 14 10).getD 2 0 * 10+(rowOf x 14 10).getD 3 0) ((rowOf x 14 10).getD 4 0 * 10+(rowOf x 14 10).getD 5 0) c.count c.al.length c.bs.length hc (by omega) (by omega)
 exact⟨⟨_,_,mH M _ x head _ _ _ d4⟩,⟨_,_,_,P.mark,mH M _ x head _ _ _ d2⟩,⟨_,mH M _ x head _ _ _ d12⟩,⟨_,mH M _ x head _ _ _ d13⟩,⟨_,mH M _ x head _ _ _ d14⟩,⟨_,mH M _ x head _ _ _ d8⟩,⟨_,_,mH M _ x head _ _ _ d9⟩,⟨_,_,mH M _ x head _ _ _ d10⟩,⟨_,_,mH M _ x head _ _ _ d11⟩,⟨_,_,mH M _ x head _ _ _ d7⟩,⟨_,_,mH M _ x head _ _ _ d6⟩⟩
theorem played(ns:List Int):∃(c:aK) (M1:Mo) (L1:Lay) (head:Int) (M0:Mo),L1.c=0/\lW [⟨"Commons",[]⟩] [ob 0]=.ok .none M0/\uV M0 [lI ns,.int 0]=.ok (.int (ns.getD 0 0))/\head=(if ns.getD 0 0 < 0 then -(ns.getD 0 0) else ns.getD 0 0)/\Bw M0 [ob 0,.list (Rf.cutD (ns.map PyData.int) (some 2) (some 44)),.int head]=.ok (fM c) M1/\Now M1 L1 99 71 c/\uV M1 [lI ns,.int 1]=.ok (.int (ns.getD 1 0)):=by
 obtain⟨M0,L,hL,h0,a0⟩:=amw
 have cell0:uV M0 [lI ns,.int 0]=_:=aaB M0 ns 0
 have hl:=agp ns 2 44 (by decide)
 obtain⟨c,M1,L1,hL1,h1,N1⟩:=ahN a0 (Rf.cutD ns (some ((2:Nat):Int)) (some ((44:Nat):Int))) (by omega) (if ns.getD 0 0 < 0 then -(ns.getD 0 0) else ns.getD 0 0)
 have cell1:uV M1 [lI ns,.int 1]=_:=aaB M1 ns 1
 refine⟨c,M1,L1,_,M0,hL1.trans hL,h0,cell0,rfl,?_,N1,cell1⟩
 rw[ahu]
 rw[hL]at h1
 exact h1
@[simp]theorem aoY (b:dH):aU (eE b) (.int 0)=.ok (.int b.sd.o):=rfl
@[simp]theorem aoh (b:dH):aU (eE b) (.int 1)=.ok (.int b.sd.g):=rfl
@[simp]theorem apA (b:dH):aU (eE b) (.int 2)=.ok (mX b.sd.due):=rfl
@[simp]theorem aos (b:dH):aU (eE b) (.int 3)=.ok (aM b.sd.ear):=rfl
@[simp]theorem ape (b:dH):aU (eE b) (.int 4)=.ok (.bool b.sd.al):=rfl
@[simp]theorem apZ (b:dH):aU (eE b) (.int 5)=.ok (.int b.mo):=rfl
@[simp]theorem apV (b:dH):aU (eE b) (.int 6)=.ok (.tuple (b.fi.dat::b.en.map En.dat)):=rfl
theorem Y5{c:aK}{k:Int}{b:dH}(h:bk c k=some b):atI (c.bs.map eE) (k - 1)=some (eE b):=by
 obtain⟨h1,h2,h3⟩:=lY h
 have e:k - 1=(((k - 1).toNat:Nat):Int):=by omega
 rw[e]
 exact atI_nat (by rw[aqQ,h1];rfl)
def hbW(c:aK)(k:Int)(cut:Bool):Str:=match bk c k with
 |none=>"NoBeast"
 |some b=>if b.sd.al=true then(if (cut&&b.sd.due.isNone)=true then "Unmarked" else "") else "Dead"
theorem ZS(M:Mo)(c:aK)(k:Int)(cut:Bool):oK M [jX c,.int k,.bool cut]=.ok (.str (hbW c k cut)):=by
 unfold hbW
 cases h:bk c k with
 |none=>
  have hn:=aaz h
  by_cases h1:1<=k
  ·have h2:¬k<=c.bs.length:=fun z=>hn ⟨h1,z⟩
   simp[oK,uh,h1,h2]
  ·simp[oK,uh,h1]
 |some b=>
  obtain⟨_,h1,h2⟩:=lY h
  have h3:=Y5 h
  cases e1:b.sd.al with
  |false=>simp[oK,uh,h1,h2,h3,e1]
  |true=>cases cut <;> cases e2:b.sd.due <;> simp[oK,uh,h1,h2,h3,e1,e2,mX,oO]
theorem aeL{c:aK}{k:Int}{b:dH}(h:bk c k=some b)(e:En):(eX c (k - 1).toNat e).bs.map eE=(c.bs.map eE).take (k - 1).toNat++[eE (oF b e)]++(c.bs.map eE).drop k.toNat:=by
 obtain⟨h1,h2,h3⟩:=lY h
 generalize hj:(k - 1).toNat=j at *
 have e1:k.toNat=j+1:=by omega
 rw[e1]
 have hl:j < c.bs.length:=(aqG.mp h1).1
 apply aq5
 intro i
 rw[aqQ,vC]
 by_cases q:i < j
 ·rw[if_neg (by omega),List.append_assoc,aqP (by simp;omega),List.getElem?_take_of_lt q,aqQ]
 ·by_cases q2:i=j
  ·subst q2
   rw[if_pos rfl,h1,List.append_assoc,aqT (by simp;omega)]
   simp[Nat.min_eq_left (by omega:i<=c.bs.length)]
  ·rw[if_neg (by omega),aqT (by simp;omega)]
   simp only[arj,List.length_take,aqO,List.length_singleton,List.getElem?_drop,aqQ]
   congr 2
   omega
theorem aiE{α:Type}(l:List α)(k:Int)(h:1<=k):Rf.cutD l none (some (k - 1))=l.take (k - 1).toNat:=by
 obtain⟨j,hj⟩:∃j:Nat,k - 1=j:=⟨(k - 1).toNat,by omega⟩
 rw[hj,N6]
 rfl
theorem afB{α:Type}(l:List α)(k:Int)(h:1<=k):Rf.cutD l (some k) none=l.drop k.toNat:=by
 obtain⟨j,rfl⟩:∃j:Nat,k=j:=⟨k.toNat,by omega⟩
 rw[IV]
 rfl
@[simp]theorem amB (b:dH):YL (eE b) none (some 4)=.ok (.tuple [.int b.sd.o,.int b.sd.g,mX b.sd.due,aM b.sd.ear]):=rfl
theorem aax{M:Mo}{L:Lay}{n s:Nat}{c:aK}(a:At M L c)(I:Inv n s c)(hs:s<=76)(hn:n<=199)(k p:Int):Spt M L (n+1) s (BL M [ob L.c,.int k,.int p]) (cA c (.tear k p)):=by
 have hc:=a.hc
 have h1:=aie I hn (adk a I hs k p (by omega))
 cases e:cA c (.tear k p) with
 |ok r c'=>
  rw[e]at h1
  obtain⟨M',L',hL,h1,h2,h3⟩:=h1
  exact⟨M',L',hL,by simp[BL,Qe,hc,aN,jo,h1],h2,h3⟩
 |no x=>
  rw[e]at h1
  have h1:_=_:=h1
  have hx:x.cls="NoBeast"∨x.cls="Dead"∨x.cls="NoPlace"∨x.cls="Deepest":=by
   simp only[cA,qX]at e
   (repeat' split at e) <;> cases e <;> simp
  show _=_
  rcases hx with hx|hx|hx|hx <;> simp[BL,Qe,hc,aN,jo,h1,hx,Im,RK,IK,Hz]
theorem ab3(l:List Int)(q:Nat)(h:q < l.length):nO l q=l.take q++[l[q]+1]++l.drop (q+1):=by
 apply aq5
 intro i
 unfold nO
 rw[arp]
 by_cases h1:i < q
 ·rw[List.append_assoc,aqP (by simp;omega),List.getElem?_take_of_lt h1]
  have:¬i=q:=by omega
  cases l[i]? <;> simp[this]
 ·by_cases h2:i=q
  ·subst h2
   rw[List.append_assoc,aqT (by simp;omega)]
   simp[Nat.min_eq_left (by omega:i<=l.length),h]
  ·rw[aqT (by simp;omega)]
   simp only[arj,List.length_take,List.length_singleton,List.getElem?_drop]
   have e:q+1+(i - (min q l.length+1))=i:=by omega
   rw[e]
   cases l[i]? <;> simp[h2]
theorem acI(M:Mo){n s:Nat}(c:aK)(I:Inv n s c)(hn:n<=199)(hb:c.bs.length<=50000)(k p:Int):wC M [jX c,.int k,.int p]=.ok (vD c (cA c (.tear k p))):=by
 have h1:=ZS M c k false
 unfold hbW at h1
 simp only[cA,qX]
 cases h:bk c k with
 |none=>
  rw[h]at h1
  simp[wC,CV,vD,h1]
 |some b=>
  rw[h]at h1
  have h3:=Y5 h
  show _=Out.ok (vD c (if b.sd.al=true then _ else _))
  cases e1:b.sd.al with
  |false=>
   simp[e1]at h1
   simp[wC,CV,vD,h1]
  |true=>
   simp[e1]at h1
   simp only[if_true]
   obtain⟨h4,h5,h6⟩:=lY h
   have mem:=aqM h4
   have hear:=I.ear b mem
   have hel:=fY hear
   by_cases e2:0<=p/\p < 6
   rotate_left
   ·rw[if_neg e2]
    by_cases e3:0<=p
    ·have e4:¬p<=5:=fun z=>e2 ⟨e3,by omega⟩
     simp[wC,CV,vD,h1,e3,e4]
    ·simp[wC,CV,vD,h1,e3]
   rw[if_pos e2]
   obtain⟨q,rfl⟩:∃q:Nat,p=q:=⟨p.toNat,by omega⟩
   have hq:q < b.sd.ear.length:=by omega
   have hq5:(q:Int)<=5:=by omega
   have h7:b.sd.ear.getD q 0=b.sd.ear[q]:=by simp[hq]
   have h8:atI (b.sd.ear.map PyData.int) (q:Int)=some (.int b.sd.ear[q]):=atI_nat (by simp[hq])
   have h9:b.sd.ear[q]<=9:=by
    unfold cV at hear
    simp only[aqF,decide_eq_true_eq,aqZ]at hear
    exact(hear.2 _ (arl hq)).2
   simp only[Int.toNat_natCast,h7]
   by_cases e3:9<=b.sd.ear[q]
   ·rw[if_pos e3]
    have e4:b.sd.ear[q]=9:=by omega
    rw[e4]at h8
    simp[wC,CV,vD,h1,hq5,h3,h8]
   rw[if_neg e3]
   have e4:¬b.sd.ear[q]=9:=by omega
   have c1:=aiE (c.bs.map eE) k h5
   have c2:=afB (c.bs.map eE) k h5
   have c3:=aeL h (.torn q)
   have c4:Rf.cutD (b.sd.ear.map PyData.int) none (some (q:Int))=(b.sd.ear.take q).map PyData.int:=by rw[N6,List.map_take]
   have c5:Rf.cutD (b.sd.ear.map PyData.int) (some ((q:Int)+1)) none=(b.sd.ear.drop (q+1)).map PyData.int:=by
    rw[show(q:Int)+1=((q+1:Nat):Int) by omega,IV,List.map_drop]
   have e6:jX (eX c (k - 1).toNat (.torn q))=.tuple [lI c.own,.list ((List.range c.al.length).map (XC c)),.list (c.held.map gM),.list ((c.bs.map eE).take (k - 1).toNat++[eE (oF b (.torn q))]++(c.bs.map eE).drop k.toNat)]:=by
    rw[←c3]
    rfl
   have en:=I.en b mem
   have en2:b.en.length<=99998:=by omega
   have ed:aM (nO b.sd.ear q)=.tuple ((b.sd.ear.take q).map PyData.int++[.int (b.sd.ear[q]+1)]++(b.sd.ear.drop (q+1)).map PyData.int):=by
    rw[ab3 _ _ hq]
    simp
   have e7:eE (oF b (.torn q))=.tuple [.int b.sd.o,.int b.sd.g,mX b.sd.due,aM (nO b.sd.ear q),.bool b.sd.al,.int b.mo,.tuple (b.fi.dat::(b.en.map En.dat++[.tuple [.str "torn",.int q]]))]:=by
    simp[eE,oF,go,En.dat]
   have l2:min (k.toNat - 1) c.bs.length<=99999:=by omega
   have l3:min (k.toNat - 1) c.bs.length+(c.bs.length - k.toNat+1)<=100000:=by omega
   have l4:min (k.toNat - 1) c.bs.length+1+(c.bs.length - k.toNat)<=100000:=by omega
   have l5:min q b.sd.ear.length<=99999:=by omega
   have l6:min q b.sd.ear.length+1+(b.sd.ear.length - (q+1))<=100000:=by omega
   have l7:min q b.sd.ear.length+(b.sd.ear.length - (q+1)+1)<=100000:=by omega
   have hbe:∀X:Dat,BP M [eE b,.int b.sd.o,.int b.sd.g,mX b.sd.due,X,.tuple [.str "torn",.int q]]=.ok (.tuple [.int b.sd.o,.int b.sd.g,mX b.sd.due,X,.bool b.sd.al,.int b.mo,.tuple (b.fi.dat::(b.en.map En.dat++[.tuple [.str "torn",.int q]]))]):=fun X=>by
    simp[BP,Oo,en2]
   show _=Out.ok (PyData.tuple [.str "",aM (nO b.sd.ear q),jX (eX c (k - 1).toNat (.torn q))])
   rw[e6,e7,ed]
   simp[wC,CV,h1,h3,c1,c2,c4,c5,l2,l3,l4,l5,l6,l7,hq5,h8,e4,hbe]
theorem afF{M:Mo}{L:Lay}{n s:Nat}{c:aK}(hL:L.c=0)(a:At M L c)(I:Inv n s c)(hs:s<=76)(hn:n<=199)(x0 x2 x3 x4 x5 x8 x9 x10 x11:Option Cell)(k p:Int):∃M' L' c' y9,L'.c=0/\At M' L' c'/\Inv (n+1) s c'/\Ge M [x0,some (.dat (ob 0)),x2,x3,x4,x5,some (.dat (.int k)),some (.dat (.int p)),x8,x9,x10,x11]=.next [x0,some (.dat (ob 0)),x2,x3,x4,x5,some (.dat (.int k)),some (.dat (.int p)),x8,y9,x10,x11] M':=by
 have f0:=I.hL
 have l1:=Tn a I (by omega)
 have hc1:=a.hc
 have h5:=acI M c I hn (by omega) k p
 have h6:=aax a I hs hn k p
 rw[hL]at l1 hc1 h6
 cases e:cA c (.tear k p) with
 |ok d c'=>
  rw[e]at h5 h6
  obtain⟨M2,L2,hL2,h6,a2,I2⟩:=h6
  have hd:lk 8 d=true:=by
   simp only[cA,qX]at e
   (repeat' split at e) <;> cases e
   exact Yq 7 _
  have k1:jx 10 M2 [.tuple [.str "",d],.tuple [.str "",d]]=.ok (.bool true):=Gk M2 9 _ (by simp[lk,uU,hd])
  have z:Rf.cutD [PyData.str "",d,jX c'] none (some 2)=[PyData.str "",d]:=rfl
  refine⟨M2,L2,c',some (.dat (vD c (.ok d c'))),hL2.trans hL,a2,I2,?_⟩
  simp[Ge,hc1,aN,eO,l1,h5]
  simp[h6,vD,z,k1]
 |no y=>
  rw[e]at h5 h6
  have h6:_=_:=h6
  have k1:jx 10 M [.tuple [.str y.cls,.none],.tuple [.str y.cls,.none]]=.ok (.bool true):=Gk M 9 _ (by simp[lk,uU])
  have z:Rf.cutD [PyData.str y.cls,.none,jX c] none (some 2)=[PyData.str y.cls,.none]:=rfl
  refine⟨M,L,c,some (.dat (vD c (.no y))),hL,a,I.mono (by omega) (aq2 _),?_⟩
  simp[Ge,hc1,aN,eO,l1,h5]
  simp[h6,vD,z,k1]
theorem Y4(x0 x2 x3 x4 x5 x10 x11:Option Cell)(k p:Int):∀(xs:List Dat) (M:Mo) (L:Lay) (n s:Nat) (c:aK) (x8 x9:Option Cell),L.c=0->At M L c->Inv n s c->s<=76->n+xs.length<=199->
  ∃M' L' c' y8 y9,L'.c=0/\At M' L' c'/\Inv (n+xs.length) s c'/\gQ (aF 8) Ge xs M [x0,some (.dat (ob 0)),x2,x3,x4,x5,some (.dat (.int k)),some (.dat (.int p)),x8,x9,x10,x11]=.next [x0,some (.dat (ob 0)),x2,x3,x4,x5,some (.dat (.int k)),some (.dat (.int p)),y8,y9,x10,x11] M'
 |[],M,L,n,s,c,x8,x9,hL,a,I,_,_=>⟨M,L,c,x8,x9,hL,a,I,rfl⟩
 |q::xs,M,L,n,s,c,x8,x9,hL,a,I,hs,hn=>by
  rw[aqS]at hn
  obtain⟨M1,L1,c1,y9,hL1,a1,I1,h1⟩:=afF hL a I hs (by omega) x0 x2 x3 x4 x5 (some (.dat q)) x9 x10 x11 k p
  obtain⟨M2,L2,c2,z8,z9,hL2,a2,I2,h2⟩:=Y4 x0 x2 x3 x4 x5 x10 x11 k p xs M1 L1 (n+1) s c1 (some (.dat q)) y9 hL1 a1 I1 hs (by omega)
  refine⟨M2,L2,c2,z8,z9,hL2,a2,by rw[aqS,show n+(xs.length+1)=n+1+xs.length by omega];exact I2,?_⟩
  rw[jG (ρ1:=[x0,some (.dat (ob 0)),x2,x3,x4,x5,some (.dat (.int k)),some (.dat (.int p)),some (.dat q),x9,x10,x11]) (by simp) h1]
  exact h2
theorem aeG(ns:List Int)(h:ns.length<=63):∃M,GP [] [.list (ns.map PyData.int)]=.ok (.bool true) M:=by
 obtain⟨c0',M0',L0',head,M0,hL0,h0,c0,hh,h1,N,c1⟩:=played ns
 generalize ns.getD 0 0=x0 at *
 generalize ns.getD 1 0=x at *
 have I0:=N.inv
 obtain⟨_,_,_,_,_,_,⟨a,b,h2⟩,_⟩:=adN M0' c0' I0.cnt.1 x head
 obtain⟨k,h3⟩:=acu M0' a x 3
 have hd5:∀z,decide (CDiv z 5)=true:=fun z=>decide_eq_true ⟨by decide,by decide⟩
 obtain⟨p,h4⟩:=acu M0' (if x % 5=1 then x / 5 % 8 - 1 else b) x 4
 obtain⟨j,hj,hj2⟩:∃j:Nat,x % 11=j/\j<=10:=⟨(x % 11).toNat,by omega,by omega⟩
 obtain⟨M1,L1,c,y8,y9,hL,a1,I,hw⟩:=Y4 (some (.dat (lI ns))) (some (.dat (.int head))) (some (.dat (fM c0'))) (some (.dat (.int x))) (some (.dat (.tuple [.str "tear",.int a,.int b]))) none none k p (gH 0 j) M0' L0' 99 71 c0' none none hL0 N.at_ I0 (by decide) (by simp[gH];omega)
 have I:=I.mono (n':=109) (s':=71) (by simp[gH];omega) (aq2 _)
 have j1:(j:Int)<=100000:=by omega
 have j2 : -100000<=(j:Int):=by omega
 have f0:=I.hL
 have l1:=Tn a1 I (by decide)
 have hc1:=a1.hc
 have h5:=acI M1 c I (by decide) (by omega) k p
 have h6:=aax a1 I (by decide) (by decide) k p
 rw[hL]at l1 hc1 h6
 cases e:cA c (.tear k p) with
 |ok d c'=>
  rw[e]at h5 h6
  obtain⟨M2,L2,hL2,h6,a2,I2⟩:=h6
  have hd:lk 8 d=true:=by
   simp only[cA,qX]at e
   (repeat' split at e) <;> cases e
   exact Yq 7 _
  have k1:jx 10 M2 [.tuple [.str "",d],.tuple [.str "",d]]=.ok (.bool true):=Gk M2 9 _ (by simp[lk,uU,hd])
  have k2:=Vx M2 c'
  have l2:=Tn a2 I2 (by decide)
  have hc2:=a2.hc
  rw[hL2,hL]at l2 hc2
  refine⟨M2,?_⟩
  have z:Rf.cutD [PyData.str "",d,jX c'] none (some 2)=[PyData.str "",d]:=rfl
  by_cases hx:x % 5=1
  ·rw[if_pos hx]at h4
   simp[GP,Ls,h0,c0,←hh,h1,c1,h2,h3,hx,hd5,h4,hj,j1,j2,hw]
   simp[hc1,aN,eO,l1,h5,h6,hc2,l2,vD,z,k1,k2]
  ·rw[if_neg hx]at h4
   simp[GP,Ls,h0,c0,←hh,h1,c1,h2,h3,hx,h4,hj,j1,j2,hw]
   simp[hc1,aN,eO,l1,h5,h6,hc2,l2,vD,z,k1,k2]
 |no y=>
  rw[e]at h5 h6
  have h6:_=_:=h6
  have k1:jx 10 M1 [.tuple [.str y.cls,.none],.tuple [.str y.cls,.none]]=.ok (.bool true):=Gk M1 9 _ (by simp[lk,uU])
  have k2:=Vx M1 c
  refine⟨M1,?_⟩
  have z:Rf.cutD [PyData.str y.cls,.none,jX c] none (some 2)=[PyData.str y.cls,.none]:=rfl
  by_cases hx:x % 5=1
  ·rw[if_pos hx]at h4
   simp[GP,Ls,h0,c0,←hh,h1,c1,h2,h3,hx,hd5,h4,hj,j1,j2,hw]
   simp[hc1,aN,eO,l1,h5,h6,vD,z,k1,k2]
  ·rw[if_neg hx]at h4
   simp[GP,Ls,h0,c0,←hh,h1,c1,h2,h3,hx,h4,hj,j1,j2,hw]
   simp[hc1,aN,eO,l1,h5,h6,vD,z,k1,k2]
end Pr
open PySem PySem.W PySem.Calls PyProof.Rows
set_option maxHeartbeats 0 in
theorem PySem.Challenge.cw_earmarks_k37_torn_holds : PySem.Challenge.rw_earmarks_k37_torn.Holds := by
 w_on;o_law
 refine HandSHeadRun.head_any (r:=OpenLaw.row PySem.Challenge.rw_earmarks_k37_torn) (q:=view (OpenLaw.row PySem.Challenge.rw_earmarks_k37_torn).prog [89]) (H:=Pr.hkE) (ob:=Pr.obE) (M:=40000) (loose:=Pr.nm) (d:=HandSHeadRun.topDef (OpenLaw.row PySem.Challenge.rw_earmarks_k37_torn).prog 89) (kwd:=[]) Pr.akx (by kernel_rfl) (fun s=>by kernel_rfl) Pr.run (by kernel_rfl) (by kernel_rfl) (by kernel_rfl) (by rfl) (by first | assumption | decide +kernel) (by decide +kernel) ⟨rfl,rfl,rfl,rfl,rfl,by decide +kernel⟩ ?hw ?hc
 case hw=>w_witness2
 case hc=>
  refine L2.walk_ofE (l:=PySem.Challenge.rw_earmarks_k37_torn) (n:=63) (k:=13) (x:="_law_script") (CX:=L2.CX0) rfl (by decide) (by kernel_rfl) ⟨rfl,by decide,by decide⟩ ?F (fun _ _ _ _ z=>z)
  intro w mg fa h Y G hmg0
  obtain⟨K,KX,c⟩:=Y
  have hmg:mg ("law" : PySem.Str)=some (.ref fa):=by
   have e:(HandSHeadRun.topDef (OpenLaw.row PySem.Challenge.rw_earmarks_k37_torn).prog 89).name=("law" : PySem.Str):=by kernel_rfl
   rw[←e]
   exact hmg0
  have T:Pr.Top w K mg:=⟨⟨h,KX,G⟩,c⟩
  have e:=hmg.symm.trans (T.glo 101)
  cases e
  obtain⟨fd,F⟩:=T.c.Vi 101
  have b:=L2.FunD.bindsA (ps:=["_law_script"]) F fun _ _ _ _ _ _ us hl=>match us,hl with|[_],_=>rfl
  exact⟨K,fd,fun vs H Q _=>Rf.Gi K (Pr.aj w K) 1 Pr.GP vs H Q fun _ _ _=>False,KX,fun s v=>b s [v] rfl,fun H a ns hl _ hS=>(Pr.aeG ns hl).elim fun _ z=>Rf.alw rfl hS z,fun base _ _=>Rf.ab8 (Pr.akW T F)⟩

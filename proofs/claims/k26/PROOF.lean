import PyProof.Rows.All
import Wide.All
import OpenK.AllK
import Wide.FinOn
import HandS.ForMost
import HandS.Evl
import HandS.Walk
import HandS.Zip
import HandS.IsInst
import HandS.Style
import HandS.FStr
import HandS.Strs
import HandS.TupAny
import HandS.Deep
import HandS.Exc
import HandS.TryOnly
import HandS.ExcOwn
import HandS.WordsExc
import KE.GoesMore
import KE.GoesEnum
import KE.DataMinMax
import KE.SortData
import HandS.SortKw
import HandS.TupSets
import HandS.SetBool
import KE.KeyNested
import PyProof.Transfer
import HandS.ExcField
import HandS.ExcInit
import HandS.TryMany
import HandS.HeadHook4
import HandS.HeadHook3
import HandS.HeadHook2
import HandS.HeadHook1
import HandS.HeadEnd
import HandS.Head2
import HandS.Head1
import HandS.Head0
import KE.KStateDown
import HandS.Flow
import KE.KUnpackStar
import KE.GoesEnumKw
import PySem.Challenge.RW_earmarks_k26_stories_end
set_option Elab.async false
set_option linter.all false
set_option maxRecDepth 100000
set_option maxHeartbeats 2000000
namespace Ear
open PySem PySem.Spec PyProof.Rows L2 Evl RZ
/-! ### lists of values that stand for others -/
def All2 {α : Type} (R : V → α → Prop) (ws : List V) (L : List α) : Prop := ws.length = L.length ∧ ∀ (i : Nat) (v : V) (x : α), ws[i]? = some v → L[i]? = some x → R v x
theorem All2.imp {α : Type} {R S : V → α → Prop} {ws : List V} {L : List α} (h : All2 R ws L) (k : ∀ v x, R v x → S v x) : All2 S ws L := ⟨h.1, fun i v x a b => k v x (h.2 i v x a b)⟩
theorem All2.nil {α : Type} {R : V → α → Prop} : All2 R [] [] := ⟨rfl, fun i v x a _ => by simp at a⟩
theorem All2.snoc {α : Type} {R : V → α → Prop} {ws : List V} {L : List α} {v : V} {x : α} (h : All2 R ws L) (k : R v x) : All2 R (ws ++ [v]) (L ++ [x]) := by
  refine ⟨by rw [List.length_append, List.length_append, h.1]; rfl, fun i u y a b => ?_⟩
  by_cases hi : i < ws.length
  · rw [List.getElem?_append_left hi] at a
    rw [List.getElem?_append_left (by rw [← h.1]; exact hi)] at b
    exact h.2 i u y a b
  · rw [List.getElem?_append_right (by omega)] at a
    rw [List.getElem?_append_right (by rw [← h.1]; omega), ← h.1] at b
    have hj : i - ws.length = 0 := by
      have := (List.getElem?_eq_some_iff.mp a).1
      simp only [List.length_cons, List.length_nil] at this
      omega
    rw [hj] at a b
    cases a
    cases b
    exact k
def EarAt (H : Hp) (v : V) (l : List Int) : Prop := ∃ h : Addr, v = .ref h ∧ H h = some (.tup (l.map V.int))
theorem EarAt.mono {H H' : Hp} (e : Ex H H') {v : V} {l : List Int} (h : EarAt H v l) : EarAt H' v l := by
  obtain ⟨a, e1, h1⟩ := h
  exact ⟨a, e1, e _ _ h1⟩
theorem EarAt.upd {H : Hp} {D : Addr} {acc : List V} {o : HO} (hD : H D = some (.lst acc)) {v : V} {l : List Int} (h : EarAt H v l) : EarAt (upd H D o) v l := by
  obtain ⟨a, e1, h1⟩ := h
  refine ⟨a, e1, ?_⟩
  rw [upd_ne (fun z => by rw [z, hD] at h1; cases h1)]
  exact h1
/-! ### rules over data of any depth: sorted(xs), min(xs, default=d), x < y -/
theorem minD_mem : ∀ (xs : List PyData) (x : PyData), PySem.W.minD x xs ∈ x :: xs
  | [], x => List.mem_singleton.mpr rfl
  | y :: ys, x => by
    show PySem.W.minD (if PySem.W.dataLt y x then y else x) ys ∈ x :: y :: ys
    have ih := minD_mem ys (if PySem.W.dataLt y x then y else x)
    rcases List.mem_cons.mp ih with e | m
    · rw [e]
      split
      · exact List.mem_cons_of_mem _ List.mem_cons_self
      · exact List.mem_cons_self
    · exact List.mem_cons_of_mem _ (List.mem_cons_of_mem _ m)
@[irreducible] def rMinDat (K : PySem.W.Frag) : List V → List V → Hp → VK → Prop := fun vs zs H Q => ∃ (a : Addr) (xs : List V) (ds : List PyData) (d : V), vs = [V.ref a] ∧ zs = [d] ∧ SqL K H a xs ∧ DpAll K H xs ds ∧ PySem.W.AlikeAll ds ∧ PyData.depthAll ds ≤ 60 ∧
  (ds = [] → Q d H) ∧ ∀ (y : PyData) (ys : List PyData) (i : Nat) (x : V), ds = y :: ys → xs[i]? = some x → ds[i]? = some (PySem.W.minD y ys) → Q x H
section
variable {X : Cx}
theorem cr_minDat (hu : X.A.units + 65 < cLine) (hc : X.calm = true) : CallRK X (.builtin "min") [Str.ofString "default"] (rMinDat X.K) := by
  intro pins s σ H vs zs us ws Q I r1 r2 h
  unfold rMinDat at h
  obtain ⟨a, xs, ds, d, rfl, rfl, hs, hd, ha, hz, q0, q⟩ := h
  obtain ⟨u, rfl, ru⟩ := vals1 r1
  obtain ⟨wd, rfl, rd⟩ := vals1 r2
  obtain rfl : u = Value.ref a := ru
  obtain ⟨its, rv, hl, _⟩ := I.list hs
  obtain ⟨as, hr⟩ := Dp.readsAll I ds xs its hd rv
  refine PySem.W.min_list_default (I.ok.hd hc) hl.isList hr ha (by omega) (fun e h' tk k => ?_) (fun y ys i v h' tk bs e hv rm k => ?_)
  · exact ⟨d, H, I.kept (t' := tk) k, rd, q0 e⟩
  · have hv' : its[i]? = some v := by simpa using hv
    have hi : i < its.length := (List.getElem?_eq_some_iff.mp hv').1
    have hx : i < xs.length := by
      rw [rv.length]
      exact hi
    obtain ⟨v', gv, rx⟩ := rv.get (List.getElem?_eq_getElem hx)
    obtain rfl : v' = v := Option.some.inj (gv.symm.trans hv')
    have hn := SeqAt.ReadsAll.length ds its as hr
    have hdi : i < ds.length := by omega
    obtain ⟨bs2, r, _⟩ := PySem.W.readsAll_atA (vs := its.toArray) hr i v' (by simpa using hv')
    have eg : ds.getD i .none = ds[i] := by
      rw [List.getD_eq_getElem?_getD, List.getElem?_eq_getElem hdi]
      rfl
    rw [eg] at r
    have m1 : ds[i] ∈ ds := List.getElem_mem hdi
    have m2 : PySem.W.minD y ys ∈ ds := by
      rw [e]
      exact minD_mem ys y
    have eq := PySem.W.alike_unique _ _ _ _ _ (ha.1 _ m1 _ m2) (PySem.W.reads_keeps k r) rm
    exact ⟨xs[i], H, I.kept (t' := tk) k, rx, q y ys i _ e (List.getElem?_eq_getElem hx) (by rw [List.getElem?_eq_getElem hdi, eq])⟩
/-- sorted(xs): a new list of the same, sorted as data are -/
def Srt2 (xs : List V) (ds : List PyData) (x : V) (d : PyData) : Prop := ∃ i : Nat, xs[i]? = some x ∧ ds[i]? = some d
@[irreducible] def rSortDat (K : PySem.W.Frag) : List V → Hp → VK → Prop := fun vs H Q => ∃ (a : Addr) (xs : List V) (ds : List PyData), vs = [V.ref a] ∧ SqL K H a xs ∧ DpAll K H xs ds ∧ PySem.W.AllAlike ds ∧ PySem.W.Sortable ds ∧ (∀ d ∈ ds, d.depth ≤ 60) ∧
  ∀ (ys : List V) (p : Addr), All2 (Srt2 xs ds) ys (ds.mergeSort (PySem.W.dataLe false id)) → H p = none → Q (.ref p) (upd H p (.lst ys))
theorem each_zip : ∀ (xs : List V) (ds : List PyData) (its : List Value) (P : Value → PyData → Prop), Vals xs its → PySem.W.EachIs P its ds →
    PySem.W.EachIs (fun v d => ∃ (i : Nat) (x : V), RelV x v ∧ xs[i]? = some x ∧ ds[i]? = some d) its ds
  | [], _, _, _, .nil, .nil => .nil
  | _ :: _, [], _, _, .cons _ _, k => nomatch k
  | x :: xs, d :: ds, u :: us, P, .cons r t, .cons _ k => .cons ⟨0, x, r, rfl, rfl⟩ ((each_zip xs ds us P t k).mono fun v d ⟨i, y, a, b, c⟩ => ⟨i + 1, y, a, b, c⟩)
theorem each_vals {xs : List V} {ds : List PyData} : ∀ (out : List Value) (L : List PyData), PySem.W.EachIs (fun v d => ∃ (i : Nat) (x : V), RelV x v ∧ xs[i]? = some x ∧ ds[i]? = some d) out L → ∃ ys, Vals ys out ∧ All2 (Srt2 xs ds) ys L
  | [], [], .nil => ⟨[], .nil, All2.nil⟩
  | v :: out, d :: L, .cons ⟨i, x, r, a, b⟩ k => by
    obtain ⟨ys, h1, h2⟩ := each_vals out L k
    refine ⟨x :: ys, .cons r h1, by rw [List.length_cons, List.length_cons, h2.1], fun j u y g1 g2 => ?_⟩
    cases j with
    | zero =>
      cases g1
      cases g2
      exact ⟨i, a, b⟩
    | succ j => exact h2.2 j u y g1 g2
theorem cr_sortDat (hu : X.A.units + 65 < cLine) : CallR X (.builtin "sorted") (rSortDat X.K) := by
  intro pins s σ H vs us Q I r h
  unfold rSortDat at h
  obtain ⟨a, xs, ds, rfl, hs, hd, hal, hk, hz, q⟩ := h
  obtain ⟨u, rfl, ru⟩ := vals1 r
  obtain rfl : u = Value.ref a := ru
  obtain ⟨its, rv, hl, hsz⟩ := I.list hs
  obtain ⟨as, hr⟩ := Dp.readsAll I ds xs its hd rv
  have er : PySem.W.EachIs (fun v d => ∃ as, Reads s.heap v (id d) as) its ds := PySem.W.readsAll_each id (by rw [List.map_id]; exact hr)
  have hn := SeqAt.ReadsAll.length ds its as hr
  have hl2 := rv.length
  refine PySem.W.sorted_data (enc := id) hl.isList (each_zip xs ds its _ rv er) er (by rw [List.map_id]; exact hal) (by rw [List.map_id]; exact hk) (by omega) (fun d m => ?_) fun out hlen hout => ?_
  · have := hz d m
    show X.A.units + 2 + d.depth < cLine
    omega
  · obtain ⟨ys, v1, v2⟩ := each_vals out _ hout
    obtain ⟨ep, he'⟩ := PyProof.Rows.sortedAll_at s.heap its out.toArray
    have hy : ys.length = ds.length := by
      rw [v2.1, List.length_mergeSort]
    refine ⟨.ref _, upd H (s.heap.objs.size + 1) (.lst ys), I.laid (t' := s.toks) (fun _ _ => PyProof.Rows.sortedAll_old) (Nat.le_succ _) ⟨by omega, out, ep, v1, by simpa using he'⟩, rfl, q ys _ v2 (I.hok.fresh (Nat.le_succ _))⟩
end
/-- x < y -/
@[irreducible] def rLtDat (K : PySem.W.Frag) : R2 := fun x y H Q => ∃ d e : PyData, Dp K H x d ∧ Dp K H y e ∧ PySem.W.alike d e = true ∧ d ≠ .none ∧ d.depth ≤ 60 ∧ Q (.bl (PySem.W.dataLt d e)) H
theorem op_ltDat {X : Cx} (hu : X.A.units + 65 < cLine) : OpR X (compareOp .Lt) (rLtDat X.K) := by
  intro pins s σ H x y v u Q I rx ry h
  unfold rLtDat at h
  obtain ⟨d, e, hd, he, ha, hn, hz, q⟩ := h
  obtain ⟨as, r1⟩ := Dp.reads I d x v hd rx
  obtain ⟨bs, r2⟩ := Dp.reads I e y u he ry
  exact PySem.W.lt_data r1 r2 ha hn (by omega) ⟨.bl _, H, I, rfl, q⟩
/-! ### an own exception made with nothing -/
section
variable {X : Cx} {C : Addr} {bmB : List Value} {B newId initId : String}
theorem pmk_own0 {x : Str} {p pos : Pos} (F : ExcBaseFacts B newId initId bmB) (q : PySem.W.excIn X.K C bmB newId = true) (gC : X.mg x = some (.ref C)) (kC : PySem.W.keepIn X.K (.ref C) = true) (r : Raises X (.ref C)) (hg : Gl X x)
    (hn : (x == ("__debug__" : Str)) = false := by decide) : PMk X (.Call (.Name x p) [] [] pos) (fun _ H Q => Q (.ref C) none H) := by
  intro pins s σ H Q I h
  refine wpAny_Call_Name_kw (ld_glob I hg gC ?_ hn)
  refine PySem.W.callWith_K0 I.kIn kC ?_
  show wpAny _ _ (call (.ref C) []) _ _ _
  obtain ⟨bm, N, nm, qn, bs, hdct, sn, sub, ab, col, dd, k0, k1, k2, k3, k5, mN, hC, hN, hni, T⟩ := exc_obj I.kIn q
  refine wpAny_call_exc_subT F T hC hN hni (fun h' e hm => ?_) (Nat.zero_le _)
  exact mk_of I hm r h (I.hok.gone hm.new)
end
end Ear
/-! # R0: data as trees, instances by handles, what stands in memory for them -/
namespace Rf
open PySem PySem.Spec PyProof.Rows L2 Evl

abbrev Dat := PyData
/-- a handle of an instance -/
abbrev obj (h : Nat) : Dat := PyData.dict [(PyData.none, PyData.int (Int.ofNat h))]
inductive Fld where
  | dat (d : Dat) | lst (n : Nat) (xs : List Dat) | dic (n : Bool) (kvs : List (Dat × Dat))
/-- what is known of the classes: their addresses, the names of their fields; the world -/
structure Cad where
  f : Str → Option Addr
  fl : Str → List Str
  w : World
instance : CoeFun Cad fun _ => Str → Option Addr := ⟨Cad.f⟩
structure Inst where
  cls : Str
  fs : List (Str × Fld)
abbrev Mo := List Inst
/-- what a local name holds: data, or a list of its own that may change -/
inductive Cell where
  | dat (d : Dat) | mut (xs : List Dat)
abbrev Env := List (Option Cell)
/-- an exception: its class, its fields -/
structure Exn where
  cls : Str
  fs : List (Str × Dat)
inductive Out (α : Type) where
  | ok (a : α) | exc (x : Exn) | bad
inductive GOut (α : Type) where
  | ok (a : α) (M : Mo) | exc (x : Exn) (M : Mo) | bad
inductive SOut where
  | next (ρ : Env) (M : Mo) | ret (d : Dat) (M : Mo) | brk (ρ : Env) (M : Mo) | cont (ρ : Env) (M : Mo) | exc (x : Exn) (ρ : Env) (M : Mo) | bad

/-- the ghosts: the instances' addresses; whose each list or dict of an instance is; lists of callers and of one's own that may change -/
structure Gh where
  tbl : List Addr
  ow : Addr → Option (Nat × Str)
  Lc : Addr → Prop
  Lo : Addr → Prop
def Gh.W (g : Gh) (a : Addr) : Prop := a ∈ g.tbl ∨ g.ow a ≠ none
def Gh.A (g : Gh) (a : Addr) : Prop := g.W a ∨ g.Lc a ∨ g.Lo a
def MutK : HO → Prop
  | .tup _ => False
  | .frz _ _ => False
  | _ => True
def KLst (K : PySem.W.Frag) (a : Addr) (xs : List V) : Prop := ∃ (o : Obj) (its : Array Value) (n : Nat), K.lookup a = some o ∧ o.cls = .type "list" ∧ o.dict = none ∧ o.data = .seq its n ∧ its.size ≤ sizeLine ∧ Vals xs its.toList
/-- a list that is data: it never changes -/
def LsAt (K : PySem.W.Frag) (g : Gh) (H : Hp) (a : Addr) (xs : List V) : Prop := (Rd H a (.lst xs) ∧ ¬ g.A a) ∨ KLst K a xs
theorem LsAt.sq {K : PySem.W.Frag} {g : Gh} {H : Hp} {a : Addr} {xs : List V} (h : LsAt K g H a xs) : SqL K H a xs := h.elim (fun z => .inl z.1) .inr
mutual
inductive Rep (K : PySem.W.Frag) (g : Gh) (H : Hp) : V → Dat → Prop
  | non : Rep K g H .non .none
  | bl (b : Bool) : Rep K g H (.bl b) (.bool b)
  | int (i : Int) : Rep K g H (.int i) (.int i)
  | str (x : Str) : Rep K g H (.str x) (.str x)
  | tup {a : Addr} {xs : List V} {ds : List Dat} : SqT K H a xs → Reps K g H xs ds → Rep K g H (.ref a) (.tuple ds)
  | lst {a : Addr} {xs : List V} {ds : List Dat} : LsAt K g H a xs → Reps K g H xs ds → Rep K g H (.ref a) (.list ds)
  | obj {a : Addr} {h : Nat} : g.tbl[h]? = some a → Rep K g H (.ref a) (obj h)
inductive Reps (K : PySem.W.Frag) (g : Gh) (H : Hp) : List V → List Dat → Prop
  | nil : Reps K g H [] []
  | cons {v : V} {vs : List V} {d : Dat} {ds : List Dat} : Rep K g H v d → Reps K g H vs ds → Reps K g H (v :: vs) (d :: ds)
end
/-- the ghosts' objects are there, none is a tuple, and each is of one kind -/
structure Kd (g : Gh) (H : Hp) : Prop where
  ob : ∀ a, g.A a → ∃ o, H a = some o ∧ MutK o
  lo : ∀ a, g.Lo a → ¬ g.W a
  lc : ∀ a, g.Lc a → ¬ g.W a ∧ ¬ g.Lo a
/-- from one moment to a later one; q: quietly, the instances as they were -/
structure Gr (q : Bool) (g g' : Gh) (H H' : Hp) : Prop where
  keep : ∀ a o, H a = some o → ¬ g.W a → ¬ g.Lo a → H' a = some o
  keepW : q = true → ∀ a o, H a = some o → g.W a → H' a = some o
  dom : ∀ a, H' a = none → H a = none
  tbl : ∃ more, g'.tbl = g.tbl ++ more
  W : ∀ a, g.W a → g'.W a
  nW : ∀ a, g'.W a → g.W a ∨ H a = none
  qg : q = true → g'.tbl = g.tbl ∧ g'.ow = g.ow
  Lc : g'.Lc = g.Lc
  Lo : ∀ a, g.Lo a → g'.Lo a
  nLo : ∀ a, g'.Lo a → g.Lo a ∨ H a = none
section
variable {K : PySem.W.Frag} {q : Bool} {g g' g2 : Gh} {H H' H2 : Hp} {v : V} {d : Dat}
theorem Gr.refl : Gr q g g H H := ⟨fun _ _ h _ _ => h, fun _ _ _ h _ => h, fun _ h => h, ⟨[], by simp⟩, fun _ h => h, fun _ h => .inl h, fun _ => ⟨rfl, rfl⟩, rfl, fun _ h => h, fun _ h => .inl h⟩
theorem ex_dom (e : Ex H H') : ∀ a, H' a = none → H a = none := fun a h => by
  cases h1 : H a with
  | none => rfl
  | some o =>
    rw [e a o h1] at h
    cases h
theorem Gr.ex (e : Ex H H') : Gr q g g H H' := ⟨fun a o h _ _ => e a o h, fun _ a o h _ => e a o h, ex_dom e, ⟨[], by simp⟩, fun _ h => h, fun _ h => .inl h, fun _ => ⟨rfl, rfl⟩, rfl, fun _ h => h, fun _ h => .inl h⟩
theorem Gr.trans (a : Gr q g g' H H') (b : Gr q g' g2 H' H2) : Gr q g g2 H H2 where
  keep := fun x o h nw nl => by
    have h1 := a.keep x o h nw nl
    refine b.keep x o h1 (fun z => ?_) (fun z => ?_)
    · rcases a.nW x z with z | z
      · exact nw z
      · rw [h] at z
        cases z
    · rcases a.nLo x z with z | z
      · exact nl z
      · rw [h] at z
        cases z
  keepW := fun hq x o h w => b.keepW hq x o (a.keepW hq x o h w) (a.W x w)
  dom := fun x h => a.dom x (b.dom x h)
  tbl := by
    obtain ⟨m1, e1⟩ := a.tbl
    obtain ⟨m2, e2⟩ := b.tbl
    exact ⟨m1 ++ m2, by rw [e2, e1, List.append_assoc]⟩
  W := fun x h => b.W x (a.W x h)
  nW := fun x h => by
    rcases b.nW x h with z | z
    · exact a.nW x z
    · exact .inr (a.dom x z)
  qg := fun hq => by
    obtain ⟨e1, e2⟩ := a.qg hq
    obtain ⟨f1, f2⟩ := b.qg hq
    exact ⟨f1.trans e1, f2.trans e2⟩
  Lc := b.Lc.trans a.Lc
  Lo := fun x h => b.Lo x (a.Lo x h)
  nLo := fun x h => by
    rcases b.nLo x h with z | z
    · exact a.nLo x z
    · exact .inr (a.dom x z)
theorem Gr.loud (a : Gr q g g' H H') : Gr false g g' H H' := ⟨a.keep, (fun h => nomatch h), a.dom, a.tbl, a.W, a.nW, (fun h => nomatch h), a.Lc, a.Lo, a.nLo⟩
theorem Gr.nA (r : Gr q g g' H H') {a : Addr} {o : HO} (h : H a = some o) (n : ¬ g.A a) : ¬ g'.A a := fun z => by
  rcases z with z | z | z
  · rcases r.nW a z with z | z
    · exact n (.inl z)
    · rw [h] at z
      cases z
  · rw [r.Lc] at z
    exact n (.inr (.inl z))
  · rcases r.nLo a z with z | z
    · exact n (.inr (.inr z))
    · rw [h] at z
      cases z
theorem Gr.rd (r : Gr q g g' H H') {a : Addr} {o : HO} (h : Rd H a o) (n : ¬ g.A a) : Rd H' a o ∧ ¬ g'.A a := by
  rcases h with h | ⟨z, h⟩
  · exact ⟨.inl (r.keep a _ h (fun w => n (.inl w)) fun w => n (.inr (.inr w))), r.nA h n⟩
  · exact ⟨.inr ⟨z, r.keep a _ h (fun w => n (.inl w)) fun w => n (.inr (.inr w))⟩, r.nA h n⟩
theorem Kd.tup (k : Kd g H) {a : Addr} {xs : List V} (h : Rd H a (.tup xs)) : ¬ g.A a := fun z => by
  obtain ⟨o, e, m⟩ := k.ob a z
  rcases h with h | ⟨y, h⟩ <;> (rw [h] at e; cases e; exact m)
theorem Gr.sqT (r : Gr q g g' H H') (k : Kd g H) {a : Addr} {xs : List V} (h : SqT K H a xs) : SqT K H' a xs := by
  rcases h with h | h
  · exact .inl (r.rd h (k.tup h)).1
  · exact .inr h
theorem Gr.ls (r : Gr q g g' H H') {a : Addr} {xs : List V} (h : LsAt K g H a xs) : LsAt K g' H' a xs := by
  rcases h with ⟨h, n⟩ | h
  · exact .inl (r.rd h n)
  · exact .inr h
theorem Gr.tb (r : Gr q g g' H H') {h : Nat} {a : Addr} (e : g.tbl[h]? = some a) : g'.tbl[h]? = some a := by
  obtain ⟨m, em⟩ := r.tbl
  rw [em, List.getElem?_append_left (List.getElem?_eq_some_iff.mp e).1]
  exact e
mutual
theorem Rep.gr (r : Gr q g g' H H') (k : Kd g H) : ∀ {v : V} {d : Dat}, Rep K g H v d → Rep K g' H' v d
  | _, _, .non => .non
  | _, _, .bl b => .bl b
  | _, _, .int i => .int i
  | _, _, .str x => .str x
  | _, _, .tup h t => .tup (r.sqT k h) (Reps.gr r k t)
  | _, _, .lst h t => .lst (r.ls h) (Reps.gr r k t)
  | _, _, .obj h => .obj (r.tb h)
theorem Reps.gr (r : Gr q g g' H H') (k : Kd g H) : ∀ {vs : List V} {ds : List Dat}, Reps K g H vs ds → Reps K g' H' vs ds
  | _, _, .nil => .nil
  | _, _, .cons h t => .cons (Rep.gr r k h) (Reps.gr r k t)
end
-- fewer things to keep off
mutual
theorem Rep.less (e : g'.tbl = g.tbl) (n : ∀ a, g'.A a → g.A a) : ∀ {v : V} {d : Dat}, Rep K g H v d → Rep K g' H v d
  | _, _, .non => .non
  | _, _, .bl b => .bl b
  | _, _, .int i => .int i
  | _, _, .str x => .str x
  | _, _, .tup h t => .tup h (Reps.less e n t)
  | _, _, .lst h t => .lst (h.elim (fun z => .inl ⟨z.1, fun y => z.2 (n _ y)⟩) .inr) (Reps.less e n t)
  | _, _, .obj h => .obj (by rw [e]; exact h)
theorem Reps.less (e : g'.tbl = g.tbl) (n : ∀ a, g'.A a → g.A a) : ∀ {vs : List V} {ds : List Dat}, Reps K g H vs ds → Reps K g' H vs ds
  | _, _, .nil => .nil
  | _, _, .cons h t => .cons (Rep.less e n h) (Reps.less e n t)
end
-- what no list is in stands whatever is kept off
mutual
def lf : Dat → Bool
  | .list _ => false
  | .tuple ds => lfs ds
  | .dict _ => true
  | .none => true
  | .bool _ => true
  | .int _ => true
  | .str _ => true
def lfs : List Dat → Bool
  | [] => true
  | d :: ds => lf d && lfs ds
end
mutual
theorem Rep.free (e : g'.tbl = g.tbl) : ∀ {v : V} {d : Dat}, lf d = true → Rep K g H v d → Rep K g' H v d
  | _, _, _, .non => .non
  | _, _, _, .bl b => .bl b
  | _, _, _, .int i => .int i
  | _, _, _, .str x => .str x
  | _, _, f, .tup h t => .tup h (Reps.free e (by rw [lf] at f; exact f) t)
  | _, _, f, .lst h t => by rw [lf] at f; cases f
  | _, _, _, .obj h => .obj (by rw [e]; exact h)
theorem Reps.free (e : g'.tbl = g.tbl) : ∀ {vs : List V} {ds : List Dat}, lfs ds = true → Reps K g H vs ds → Reps K g' H vs ds
  | _, _, _, .nil => .nil
  | _, _, f, .cons h t => .cons (Rep.free e (by rw [lfs, Bool.and_eq_true] at f; exact f.1) h) (Reps.free e (by rw [lfs, Bool.and_eq_true] at f; exact f.2) t)
end
theorem Reps.length : ∀ {vs : List V} {ds : List Dat}, Reps K g H vs ds → vs.length = ds.length
  | _, _, .nil => rfl
  | _, _, .cons _ t => congrArg (· + 1) t.length
theorem Reps.get : ∀ {vs : List V} {ds : List Dat} {i : Nat} {d : Dat}, Reps K g H vs ds → ds[i]? = some d → ∃ v, vs[i]? = some v ∧ Rep K g H v d
  | _, _, _, _, .nil, e => by simp at e
  | _, _, 0, _, .cons h _, e => by simp at e; subst e; exact ⟨_, rfl, h⟩
  | _, _, i + 1, _, .cons _ t, e => by simpa using t.get (i := i) (by simpa using e)
theorem Reps.get' : ∀ {vs : List V} {ds : List Dat} {i : Nat} {v : V}, Reps K g H vs ds → vs[i]? = some v → ∃ d, ds[i]? = some d ∧ Rep K g H v d
  | _, _, _, _, .nil, e => by simp at e
  | _, _, 0, _, .cons h _, e => by simp at e; subst e; exact ⟨_, rfl, h⟩
  | _, _, i + 1, _, .cons _ t, e => by simpa using t.get' (i := i) (by simpa using e)
theorem Reps.append : ∀ {vs ws : List V} {ds es : List Dat}, Reps K g H vs ds → Reps K g H ws es → Reps K g H (vs ++ ws) (ds ++ es)
  | _, _, _, _, .nil, t => t
  | _, _, _, _, .cons h r, t => .cons h (r.append t)
theorem Reps.take : ∀ {vs : List V} {ds : List Dat} (n : Nat), Reps K g H vs ds → Reps K g H (vs.take n) (ds.take n)
  | _, _, 0, _ => .nil
  | _, _, _ + 1, .nil => .nil
  | _, _, n + 1, .cons h t => .cons h (t.take n)
theorem Reps.drop : ∀ {vs : List V} {ds : List Dat} (n : Nat), Reps K g H vs ds → Reps K g H (vs.drop n) (ds.drop n)
  | _, _, 0, t => t
  | _, _, _ + 1, .nil => .nil
  | _, _, n + 1, .cons _ t => t.drop n
theorem Reps.set {v : V} {d : Dat} (r : Rep K g H v d) : ∀ {vs : List V} {ds : List Dat} (i : Nat), Reps K g H vs ds → Reps K g H (vs.set i v) (ds.set i d)
  | _, _, _, .nil => .nil
  | _, _, 0, .cons _ t => .cons r t
  | _, _, i + 1, .cons h t => .cons h (t.set r i)
/-- one of the ghosts' objects changes -/
theorem Gr.upd {l : Addr} {o o' : HO} (k : Kd g H) (h : H l = some o) (w : (g.W l ∧ q = false) ∨ g.Lo l) : Gr q g g H (L2.upd H l o') where
  keep := fun a u e nw nl => by
    rw [upd_ne (fun z => by subst z; exact w.elim (fun w => nw w.1) nl)]
    exact e
  keepW := fun hq a u e wa => by
    rcases w with w | w
    · rw [hq] at w
      cases w.2
    · rw [upd_ne (fun z => by subst z; exact k.lo _ w wa)]
      exact e
  dom := fun a e => by
    by_cases z : a = l
    · subst z
      rw [upd_same] at e
      cases e
    · rw [upd_ne z] at e
      exact e
  tbl := ⟨[], by simp⟩
  W := fun _ h => h
  nW := fun _ h => .inl h
  qg := fun _ => ⟨rfl, rfl⟩
  Lc := rfl
  Lo := fun _ h => h
  nLo := fun _ h => .inl h
theorem Kd.ex (k : Kd g H) (e : Ex H H') : Kd g H' := ⟨fun a z => let ⟨o, h, m⟩ := k.ob a z; ⟨o, e a o h, m⟩, k.lo, k.lc⟩
theorem Kd.upd (k : Kd g H) {l : Addr} {o : HO} (m : MutK o) : Kd g (L2.upd H l o) := ⟨fun a z => by
  by_cases e : a = l
  · subst e
    exact ⟨o, upd_same, m⟩
  · rw [upd_ne e]
    exact k.ob a z, k.lo, k.lc⟩
theorem Rep.ex (e : Ex H H') (k : Kd g H) (h : Rep K g H v d) : Rep K g H' v d := h.gr (Gr.ex (q := true) e) k
theorem Reps.ex {vs : List V} {ds : List Dat} (e : Ex H H') (k : Kd g H) (h : Reps K g H vs ds) : Reps K g H' vs ds := h.gr (Gr.ex (q := true) e) k
end
end Rf
/-! # R1: what a body's state stands for; what an expression evaluates to -/
namespace Rf
open PySem PySem.Spec PyProof.Rows L2 Evl

/-- a dict of ints and texts -/
def keyD : Key → Dat
  | .inl i => .int i
  | .inr x => .str x
/-- an object that is known whole -/
def PinO (l : Addr) (o : Obj) : HO := .ext fun h => h.get? l = some o
abbrev NEnt : Type := NestedKey × Addr × Value
def nEntry (w : World) (x : NEnt) : DictEntry := ⟨x.1.hash w, .ref x.2.1, x.2.2⟩
/-- a dict whose keys are tuples -/
structure NDic (w : World) (l : Addr) (o : Obj) (xs : List NEnt) : Prop where
  sys : (l == sysModules) = false
  ex : o.ExactDict
  ent : ∃ es ep, o.data = .dict es ep ∧ es.toList = xs.map (nEntry w)
  nd : (xs.map (·.1)).Nodup
  len : xs.length ≤ sizeLine
  dep : ∀ x ∈ xs, x.1.depth ≤ 8
def DicAt (K : PySem.W.Frag) (cad : Cad) (g : Gh) (H : Hp) (l : Addr) : Bool → List (Dat × Dat) → Prop
  | false, kvs => ∃ kv : List (Key × V), H l = some (.dK kv) ∧ kvs.map (·.1) = kv.map (fun p => keyD p.1) ∧ Reps K g H (kv.map (·.2)) (kvs.map (·.2))
  | true, kvs => ∃ (o : Obj) (xs : List NEnt) (vs : List V), H l = some (PinO l o) ∧ NDic cad.w l o xs ∧ kvs.map (·.1) = xs.map (fun x => x.1.data) ∧ Reps K g H (xs.map fun x => V.ref x.2.1) (kvs.map (·.1)) ∧ Vals vs (xs.map (·.2.2)) ∧ Reps K g H vs (kvs.map (·.2))
def FldRep (K : PySem.W.Frag) (cad : Cad) (g : Gh) (H : Hp) (h : Nat) (f : Str) (v : V) : Fld → Prop
  | .dat d => Rep K g H v d
  | .lst n xs => ∃ l us, v = .ref l ∧ H l = some (.lst us) ∧ g.ow l = some (h, f) ∧ Reps K g H us xs ∧ g.tbl[n]? = some l
  | .dic n kvs => ∃ l, v = .ref l ∧ g.ow l = some (h, f) ∧ DicAt K cad g H l n kvs
inductive FsRep (K : PySem.W.Frag) (cad : Cad) (g : Gh) (H : Hp) (h : Nat) : List (Str × V) → List (Str × Fld) → Prop
  | nil : FsRep K cad g H h [] []
  | cons {f : Str} {v : V} {fl : Fld} {fs : List (Str × V)} {gs : List (Str × Fld)} : FldRep K cad g H h f v fl → FsRep K cad g H h fs gs → FsRep K cad g H h ((f, v) :: fs) ((f, fl) :: gs)
/-- the instances as they stand -/
structure WOk (K : PySem.W.Frag) (cad : Cad) (g : Gh) (H : Hp) (M : Mo) : Prop where
  len : g.tbl.length = M.length
  inj : ∀ (h k : Nat) (a : Addr), g.tbl[h]? = some a → g.tbl[k]? = some a → h = k
  ins : ∀ (h : Nat) (a : Addr) (i : Inst), g.tbl[h]? = some a → M[h]? = some i → i.cls ≠ "" → ∃ C dx fs, cad i.cls = some C ∧ H a = some (.ins C dx fs) ∧ FsRep K cad g H h fs i.fs
  nd : ∀ (h : Nat) (i : Inst), M[h]? = some i → (i.fs.map (·.1)).Nodup
  fd : ∀ (h : Nat) (i : Inst), M[h]? = some i → ∀ f ∈ i.fs.map (·.1), f ∈ cad.fl i.cls
  tw : ∀ (h : Nat) (a : Addr) (i : Inst), g.tbl[h]? = some a → M[h]? = some i → i.cls ≠ "" → g.ow a = none
  dm : ∀ (h : Nat) (i : Inst), M[h]? = some i → i.cls = "" → i.fs = []
  nc : cad "" = none
/-- the names of a body as they stand -/
structure SInv (K : PySem.W.Frag) (cad : Cad) (σ : L2.St) (H : Hp) (g : Gh) (ρ : Env) (M : Mo) : Prop where
  kd : Kd g H
  wok : WOk K cad g H M
  len : σ.length = ρ.length
  dat : ∀ (i : Nat) (d : Dat), ρ[i]? = some (some (.dat d)) → ∃ v, σ[i]? = some (some v) ∧ Rep K g H v d
  own : ∀ (i : Nat) (xs : List Dat), ρ[i]? = some (some (.mut xs)) → ∃ l us, σ[i]? = some (some (.ref l)) ∧ H l = some (.lst us) ∧ g.Lo l ∧ Reps K g H us xs
  sep : ∀ (i j : Nat) (xs ys : List Dat) (l : Addr), i ≠ j → ρ[i]? = some (some (.mut xs)) → ρ[j]? = some (some (.mut ys)) → σ[i]? = some (some (.ref l)) → σ[j]? ≠ some (some (.ref l))
section
variable {K : PySem.W.Frag} {cad : Cad} {q : Bool} {g g' g2 : Gh} {H H' H2 : Hp} {v : V} {d : Dat} {σ : L2.St} {ρ : Env} {M : Mo}
theorem DicAt.ex {l : Addr} : ∀ {n : Bool} {kvs : List (Dat × Dat)} (e : Ex H H') (k : Kd g H) (h : DicAt K cad g H l n kvs), DicAt K cad g H' l n kvs
  | false, _, e, k, ⟨kv, h1, h2, h3⟩ => ⟨kv, e _ _ h1, h2, h3.ex e k⟩
  | true, _, e, k, ⟨o, xs, vs, h1, h2, h3, h4, h5, h6⟩ => ⟨o, xs, vs, e _ _ h1, h2, h3, h4.ex e k, h5, h6.ex e k⟩
theorem FldRep.ex {h : Nat} {f : Str} (e : Ex H H') (k : Kd g H) : ∀ {fl : Fld}, FldRep K cad g H h f v fl → FldRep K cad g H' h f v fl
  | .dat _, r => Rep.ex e k r
  | .lst _ _, ⟨l, us, h1, h2, h3, h4, h5⟩ => ⟨l, us, h1, e _ _ h2, h3, h4.ex e k, h5⟩
  | .dic _ _, ⟨l, h1, h2, h3⟩ => ⟨l, h1, h2, h3.ex e k⟩
theorem FsRep.ex {h : Nat} (e : Ex H H') (k : Kd g H) : ∀ {fs : List (Str × V)} {gs : List (Str × Fld)}, FsRep K cad g H h fs gs → FsRep K cad g H' h fs gs
  | _, _, .nil => .nil
  | _, _, .cons r t => .cons (FldRep.ex e k r) (FsRep.ex e k t)
theorem WOk.ex (e : Ex H H') (k : Kd g H) (w : WOk K cad g H M) : WOk K cad g H' M := ⟨w.len, w.inj, fun h a i ha hi hc => by
  obtain ⟨C, dx, fs, c1, c2, c3⟩ := w.ins h a i ha hi hc
  exact ⟨C, dx, fs, c1, e _ _ c2, c3.ex e k⟩, w.nd, w.fd, w.tw, w.dm, w.nc⟩
theorem SInv.ex (e : Ex H H') (I : SInv K cad σ H g ρ M) : SInv K cad σ H' g ρ M := ⟨I.kd.ex e, I.wok.ex e I.kd, I.len, fun i d h => by
  obtain ⟨v, h1, h2⟩ := I.dat i d h
  exact ⟨v, h1, h2.ex e I.kd⟩, fun i xs h => by
  obtain ⟨l, us, h1, h2, h3, h4⟩ := I.own i xs h
  exact ⟨l, us, h1, e _ _ h2, h3, h4.ex e I.kd⟩, I.sep⟩
theorem FsRep.get {h : Nat} {f : Str} {fl : Fld} : ∀ {fs : List (Str × V)} {gs : List (Str × Fld)}, FsRep K cad g H h fs gs → gs.lookup f = some fl → ∃ v, fs.lookup f = some v ∧ FldRep K cad g H h f v fl
  | _, _, .nil, e => nomatch e
  | _, _, .cons (f := f') (v := v) (fl := fl') r t, e => by
    rw [List.lookup_cons] at e
    rw [List.lookup_cons]
    cases hb : f == f' with
    | true =>
      rw [hb] at e
      cases e
      have ef : f = f' := by simpa using hb
      subst ef
      exact ⟨v, rfl, r⟩
    | false =>
      rw [hb] at e
      exact t.get e
theorem FsRep.no {h : Nat} {f : Str} : ∀ {fs : List (Str × V)} {gs : List (Str × Fld)}, FsRep K cad g H h fs gs → gs.lookup f = none → fs.lookup f = none
  | _, _, .nil, _ => rfl
  | _, _, .cons (f := f') (v := v) (fl := fl') r t, e => by
    rw [List.lookup_cons] at e
    rw [List.lookup_cons]
    cases hb : f == f' with
    | true =>
      rw [hb] at e
      cases e
    | false =>
      rw [hb] at e
      exact t.no e
end

/-! ### outcomes -/
def Out.bind {α β : Type} (o : Out α) (k : α → Out β) : Out β :=
  match o with
  | .ok a => k a
  | .exc x => .exc x
  | .bad => .bad
def Out.sat {α : Type} (o : Out α) (P : α → Prop) (E : Exn → Prop) : Prop :=
  match o with
  | .ok a => P a
  | .exc x => E x
  | .bad => False
@[simp] theorem Out.bind_ok {α β : Type} (a : α) (k : α → Out β) : (Out.ok a).bind k = k a := rfl
@[simp] theorem Out.bind_exc {α β : Type} (x : Exn) (k : α → Out β) : (Out.exc x : Out α).bind k = .exc x := rfl
@[simp] theorem Out.bind_bad {α β : Type} (k : α → Out β) : (Out.bad : Out α).bind k = .bad := rfl
theorem Out.sat.bnd {α β : Type} {o : Out α} {k : α → Out β} {P : β → Prop} {E : Exn → Prop} (h : (o.bind k).sat P E) : o.sat (fun a => (k a).sat P E) E := by
  cases o <;> exact h
theorem Out.sat.mono {α : Type} {o : Out α} {P P' : α → Prop} {E E' : Exn → Prop} (h : o.sat P E) (hp : ∀ a, P a → P' a) (he : ∀ x, E x → E' x) : o.sat P' E' := by
  cases o
  · exact hp _ h
  · exact he _ h
  · exact h
/-- by a test of our own -/
def Out.when {α : Type} (b : Bool) (o : Out α) : Out α := if b = true then o else .bad
@[simp] theorem Out.when_true {α : Type} (o : Out α) : Out.when true o = o := rfl
@[simp] theorem Out.when_false {α : Type} (o : Out α) : Out.when false o = .bad := rfl
theorem Out.sat.whn {α : Type} {b : Bool} {o : Out α} {P : α → Prop} {E : Exn → Prop} (h : (Out.when b o).sat P E) : b = true ∧ o.sat P E := by
  cases b
  · exact False.elim h
  · exact ⟨rfl, h⟩

/-- an exception as it stands: its class's address, its own dict -/
inductive PsRep (K : PySem.W.Frag) (g : Gh) (H : Hp) : List (Str × V) → List (Str × Dat) → Prop
  | nil : PsRep K g H [] []
  | cons {f : Str} {v : V} {d : Dat} {fs : List (Str × V)} {gs : List (Str × Dat)} : Rep K g H v d → PsRep K g H fs gs → PsRep K g H ((f, v) :: fs) ((f, d) :: gs)
def XRep (K : PySem.W.Frag) (cad : Cad) (g : Gh) (H : Hp) (x : Exn) (c : Value) (dd : Option Addr) : Prop :=
  ∃ C, cad x.cls = some C ∧ c = .ref C ∧ ((x.fs = [] ∧ dd = none) ∨ ∃ a fs, dd = some a ∧ H a = some (.xd fs) ∧ PsRep K g H fs x.fs)

abbrev QF := Mo → Env → Out Dat
abbrev QT := Mo → Env → Out Bool
abbrev QA := Mo → Env → Out (List Dat)
section
variable (K : PySem.W.Frag) (cad : Cad) (W : WX)
def exE (g : Gh) (H : Hp) (σ : L2.St) (x : Exn) : Prop := ∀ H' c dd, Ex H H' → XRep K cad g H' x c dd → W c dd σ H'
def tQ (f : QF) : TE := fun σ H Q => ∃ g ρ M, SInv K cad σ H g ρ M ∧ (f M ρ).sat (fun d => ∀ v H', Ex H H' → Rep K g H' v d → Q v H') (exE K cad W g H σ)
def tQT (f : QT) : TT := fun σ H Q => ∃ g ρ M, SInv K cad σ H g ρ M ∧ (f M ρ).sat (fun b => ∀ H', Ex H H' → Q b H') (exE K cad W g H σ)
def tQA (f : QA) : TA := fun σ H Q => ∃ g ρ M, SInv K cad σ H g ρ M ∧ (f M ρ).sat (fun ds => ∀ vs H', Ex H H' → Reps K g H' vs ds → Q vs H') (exE K cad W g H σ)
end
section
variable {K : PySem.W.Frag} {cad : Cad} {W : WX} {g : Gh} {H H1 : Hp} {σ : L2.St} {ρ : Env} {M : Mo}
theorem exE.ex {x : Exn} (e : Ex H H1) (h : exE K cad W g H σ x) : exE K cad W g H1 σ x := fun H' c dd e' r => h H' c dd (e.trans e') r
/-- an expression, then what is done with its value -/
theorem tQ.go {f : QF} {k : Dat → Prop} {Q : VK} (I : SInv K cad σ H g ρ M) (h : (f M ρ).sat k (exE K cad W g H σ)) (hk : ∀ d v H', k d → Ex H H' → Rep K g H' v d → Q v H') : tQ K cad W f σ H Q :=
  ⟨g, ρ, M, I, h.mono (fun d hd v H' e r => hk d v H' hd e r) fun _ z => z⟩
theorem tQT.go {f : QT} {k : Bool → Prop} {Q : Bool → Hp → Prop} (I : SInv K cad σ H g ρ M) (h : (f M ρ).sat k (exE K cad W g H σ)) (hk : ∀ b H', k b → Ex H H' → Q b H') : tQT K cad W f σ H Q :=
  ⟨g, ρ, M, I, h.mono (fun d hd H' e => hk d H' hd e) fun _ z => z⟩
theorem tQA.go {f : QA} {k : List Dat → Prop} {Q : List V → Hp → Prop} (I : SInv K cad σ H g ρ M) (h : (f M ρ).sat k (exE K cad W g H σ)) (hk : ∀ ds vs H', k ds → Ex H H' → Reps K g H' vs ds → Q vs H') : tQA K cad W f σ H Q :=
  ⟨g, ρ, M, I, h.mono (fun d hd v H' e r => hk d v H' hd e r) fun _ z => z⟩
end
/-- an expression by what it evaluates to -/
def QE (cad : Cad) (X : Cx) (W : WX) (e : Expr) (f : QF) : Prop := PE X e (tQ X.K cad W f)
def QTe (cad : Cad) (X : Cx) (W : WX) (e : Expr) (f : QT) : Prop := PT X e (tQT X.K cad W f)
def QAe (cad : Cad) (X : Cx) (W : WX) (es : List Expr) (f : QA) : Prop := PA X es (tQA X.K cad W f)
theorem PE.weak {X : Cx} {e : Expr} {t t' : TE} (h : PE X e t) (k : ∀ σ H Q, t' σ H Q → t σ H Q) : PE X e t' := ⟨fun pins s σ H Q I q => h.run pins s σ H Q I (k σ H Q q)⟩
theorem PT.weak {X : Cx} {e : Expr} {t t' : TT} (h : PT X e t) (k : ∀ σ H Q, t' σ H Q → t σ H Q) : PT X e t' := ⟨fun pins s σ H Q I q => h.run pins s σ H Q I (k σ H Q q)⟩
theorem PA.weak {X : Cx} {e : List Expr} {t t' : TA} (h : PA X e t) (k : ∀ σ H Q, t' σ H Q → t σ H Q) : PA X e t' := ⟨fun pos pins s σ H Q I q => h.run pos pins s σ H Q I (k σ H Q q)⟩

/-! ### the forms -/
def qVar (i : Nat) : QF := fun _ ρ => match ρ[i]? with
  | some (some (.dat d)) => .ok d
  | _ => .bad
def qC (d : Dat) : QF := fun _ _ => .ok d
def qOp (o : Dat → Dat → Out Dat) (a b : QF) : QF := fun M ρ => (a M ρ).bind fun x => (b M ρ).bind fun y => o x y
def qUn (o : Dat → Out Dat) (a : QF) : QF := fun M ρ => (a M ρ).bind o
def qNil : QA := fun _ _ => .ok []
def qCons (a : QF) (r : QA) : QA := fun M ρ => (a M ρ).bind fun x => (r M ρ).bind fun xs => .ok (x :: xs)
def qTup (r : QA) : QF := fun M ρ => (r M ρ).bind fun xs => Out.when (decide (xs.length ≤ 100000)) (.ok (.tuple xs))
def qLst (r : QA) : QF := fun M ρ => (r M ρ).bind fun xs => Out.when (decide (xs.length ≤ 100000)) (.ok (.list xs))
section
variable {X : Cx} {cad : Cad} {W : WX} {a b : Expr} {fa fb : QF} {pos : Pos}
theorem qe_var {i : Nat} {x : Str} (hN : X.N[i]? = some x) (hv : Vis X.env.scope x) (hd : (x == ("__debug__" : Str)) = false) (hcd : (x == ("__classdict__" : Str)) = false) : QE cad X W (.Name x pos) (qVar i) :=
  PE.weak (pe_var hN hv hd hcd) fun σ H Q ⟨g, ρ, M, I, h⟩ => by
    unfold qVar at h
    split at h
    · next d e =>
      obtain ⟨v, h1, h2⟩ := I.dat i d e
      exact ⟨v, h1, h v H (Ex.refl H) h2⟩
    · exact False.elim h
theorem qe_int {i : Int} {j : Nat} : QE cad X W (.Constant (.int i) j pos) (qC (.int i)) := PE.weak pe_int fun σ H Q ⟨g, ρ, M, I, h⟩ => h _ H (Ex.refl H) (.int i)
theorem qe_str {x : Str} {j : Nat} : QE cad X W (.Constant (.str x) j pos) (qC (.str x)) := PE.weak pe_str fun σ H Q ⟨g, ρ, M, I, h⟩ => h _ H (Ex.refl H) (.str x)
theorem qe_bl {x : Bool} {j : Nat} : QE cad X W (.Constant (.bool x) j pos) (qC (.bool x)) := PE.weak pe_bl fun σ H Q ⟨g, ρ, M, I, h⟩ => h _ H (Ex.refl H) (.bl x)
theorem qe_non {j : Nat} : QE cad X W (.Constant .none j pos) (qC .none) := PE.weak pe_non fun σ H Q ⟨g, ρ, M, I, h⟩ => h _ H (Ex.refl H) .non
/-- two values, then an operation on them -/
def OpD (cad : Cad) (K : PySem.W.Frag) (W : WX) (o : Dat → Dat → Out Dat) (r : R2) : Prop := ∀ (σ : L2.St) (g : Gh) (H : Hp) (x y : V) (d e : Dat) (Q : VK), Kd g H → Rep K g H x d → Rep K g H y e →
  (o d e).sat (fun z => ∀ v H', Ex H H' → Rep K g H' v z → Q v H') (exE K cad W g H σ) → r x y H Q
theorem op_go {o : Dat → Dat → Out Dat} {r : R2} (ho : OpD cad X.K W o r) (σ : L2.St) (H : Hp) (Q : VK) (h : tQ X.K cad W (qOp o fa fb) σ H Q) : tOp r (tQ X.K cad W fa) (tQ X.K cad W fb) σ H Q := by
  obtain ⟨g, ρ, M, I, h⟩ := h
  refine tQ.go I h.bnd fun d v H1 h1 e1 r1 => ?_
  refine tQ.go (I.ex e1) (h1.bnd.mono (fun _ z => z) fun _ z => z.ex e1) fun d2 v2 H2 h2 e2 r2 => ?_
  refine ho σ g H2 v v2 d d2 Q ((I.kd.ex e1).ex e2) (r1.ex e2 (I.kd.ex e1)) r2 (h2.mono (fun z hz u H' e' r' => hz u H' ((e1.trans e2).trans e') r') fun _ z => (z.ex e1).ex e2)
theorem qe_op {op : Operator} {r : R2} {o : Dat → Dat → Out Dat} (hr : OpR X (binaryOp op) r) (ho : OpD cad X.K W o r) (ha : QE cad X W a fa) (hb : QE cad X W b fb) : QE cad X W (.BinOp a op b pos) (qOp o fa fb) :=
  PE.weak (pe_op hr ha hb) fun σ H Q h => op_go ho σ H Q h
theorem qe_cmp {op : CmpOp} {r : R2} {o : Dat → Dat → Out Dat} (hr : OpR X (compareOp op) r) (ho : OpD cad X.K W o r) (ha : QE cad X W a fa) (hb : QE cad X W b fb) (hm : behindInMarks op b = false) : QE cad X W (.Compare a [op] [b] pos) (qOp o fa fb) :=
  PE.weak (pe_cmpR hr ha hb hm) fun σ H Q h => op_go ho σ H Q h
theorem qa_nil : QAe cad X W [] qNil := PA.weak pa_nil fun σ H Q ⟨g, ρ, M, I, h⟩ => h [] H (Ex.refl H) .nil
theorem qa_cons {es : List Expr} {fr : QA} (ha : QE cad X W a fa) (hr : QAe cad X W es fr) (hs : starEach (a :: es) X.env = (false, eval a X.env) :: starEach es X.env) : QAe cad X W (a :: es) (qCons fa fr) :=
  PA.weak (pa_cons ha hr hs) fun σ H Q ⟨g, ρ, M, I, h⟩ => by
    refine tQ.go I h.bnd fun d v H1 h1 e1 r1 => ?_
    refine tQA.go (I.ex e1) (h1.bnd.mono (fun _ z => z) fun _ z => z.ex e1) fun ds vs H2 h2 e2 r2 => ?_
    exact h2 (v :: vs) H2 (e1.trans e2) (.cons (r1.ex e2 (I.kd.ex e1)) r2)
theorem qe_tup {es : List Expr} {fr : QA} {k : Nat} (h : QAe cad X W es fr) : QE cad X W (.Tuple es k pos) (qTup fr) :=
  PE.weak (pe_tup h) fun σ H Q ⟨g, ρ, M, I, h⟩ => by
    refine tQA.go I h.bnd fun ds vs H1 h1 e1 r1 => ?_
    obtain ⟨hz, h1⟩ := h1.whn
    have hl : vs.length ≤ 100000 := by
      rw [r1.length]
      exact of_decide_eq_true hz
    refine ⟨sz_of hl, fun p np => h1 (.ref p) _ (e1.trans (Ex.new np)) (.tup (st_of upd_same) (r1.ex (Ex.new np) (I.kd.ex e1)))⟩
theorem Kd.fresh {g : Gh} {H : Hp} (k : Kd g H) {p : Addr} (n : H p = none) : ¬ g.A p := fun z => by
  obtain ⟨o, e, _⟩ := k.ob p z
  rw [n] at e
  cases e
theorem qe_lst {es : List Expr} {fr : QA} (h : QAe cad X W es fr) : QE cad X W (.List es pos) (qLst fr) :=
  PE.weak (pe_lst h) fun σ H Q ⟨g, ρ, M, I, h⟩ => by
    refine tQA.go I h.bnd fun ds vs H1 h1 e1 r1 => ?_
    obtain ⟨hz, h1⟩ := h1.whn
    have hl : vs.length ≤ 100000 := by
      rw [r1.length]
      exact of_decide_eq_true hz
    refine ⟨sz_of hl, fun p np => h1 (.ref p) _ (e1.trans (Ex.new np)) (.lst (.inl ⟨.inl upd_same, (I.kd.ex e1).fresh np⟩) (r1.ex (Ex.new np) (I.kd.ex e1)))⟩
end
end Rf
/-! # R2: operations on data -/
namespace Rf
open PySem PySem.Spec PyProof.Rows L2 Evl

/-- a value of which a list is only read: the list itself may be one that changes later -/
def WRep (K : PySem.W.Frag) (g : Gh) (H : Hp) (v : V) : Dat → Prop
  | .list ds => ∃ a us, v = .ref a ∧ SqL K H a us ∧ Reps K g H us ds
  | d => Rep K g H v d
section
variable {K : PySem.W.Frag} {g : Gh} {H H' : Hp} {v : V} {d : Dat}
theorem Rep.weak (h : Rep K g H v d) : WRep K g H v d := by
  cases h with
  | lst a t => exact ⟨_, _, rfl, a.sq, t⟩
  | non => exact .non
  | bl b => exact .bl b
  | int i => exact .int i
  | str x => exact .str x
  | tup a t => exact .tup a t
  | obj a => exact .obj a
theorem WRep.ex (e : Ex H H') (k : Kd g H) (h : WRep K g H v d) : WRep K g H' v d := by
  cases d with
  | list ds =>
    obtain ⟨a, us, h1, h2, h3⟩ := h
    exact ⟨a, us, h1, ex_l e h2, h3.ex e k⟩
  | _ => exact Rep.ex e k h
theorem wr_int {i : Int} (h : WRep K g H v (.int i)) : v = .int i := by cases h; rfl
theorem wr_str {x : Str} (h : WRep K g H v (.str x)) : v = .str x := by cases h; rfl
theorem wr_bl {b : Bool} (h : WRep K g H v (.bool b)) : v = .bl b := by cases h; rfl
theorem wr_non (h : WRep K g H v .none) : v = .non := by cases h; rfl
theorem wr_tup {ds : List Dat} (h : WRep K g H v (.tuple ds)) : ∃ a us, v = .ref a ∧ SqT K H a us ∧ Reps K g H us ds := by
  cases h with
  | tup a t => exact ⟨_, _, rfl, a, t⟩
theorem wr_lst {ds : List Dat} (h : WRep K g H v (.list ds)) : ∃ a us, v = .ref a ∧ SqL K H a us ∧ Reps K g H us ds := h
theorem wr_obj {n : Nat} (h : WRep K g H v (obj n)) : ∃ a, v = .ref a ∧ g.tbl[n]? = some a := by
  cases h with
  | obj a => exact ⟨_, rfl, a⟩
end
section
variable (K : PySem.W.Frag) (cad : Cad) (W : WX)
def tW (f : QF) : TE := fun σ H Q => ∃ g ρ M, SInv K cad σ H g ρ M ∧ (f M ρ).sat (fun d => ∀ v H', Ex H H' → WRep K g H' v d → Q v H') (exE K cad W g H σ)
end
theorem tW.go {K : PySem.W.Frag} {cad : Cad} {W : WX} {g : Gh} {H : Hp} {σ : L2.St} {ρ : Env} {M : Mo} {f : QF} {k : Dat → Prop} {Q : VK} (I : SInv K cad σ H g ρ M) (h : (f M ρ).sat k (exE K cad W g H σ)) (hk : ∀ d v H', k d → Ex H H' → WRep K g H' v d → Q v H') : tW K cad W f σ H Q :=
  ⟨g, ρ, M, I, h.mono (fun d hd v H' e r => hk d v H' hd e r) fun _ z => z⟩
def QW (cad : Cad) (X : Cx) (W : WX) (e : Expr) (f : QF) : Prop := PE X e (tW X.K cad W f)
theorem QE.w {cad : Cad} {X : Cx} {W : WX} {e : Expr} {f : QF} (h : QE cad X W e f) : QW cad X W e f :=
  PE.weak h fun σ H Q ⟨g, ρ, M, I, z⟩ => ⟨g, ρ, M, I, z.mono (fun _ k v H' e r => k v H' e r.weak) fun _ y => y⟩
/-- a name whose list is only read -/
def qwVar (i : Nat) : QF := fun _ ρ => match ρ[i]? with
  | some (some (.dat d)) => .ok d
  | some (some (.mut xs)) => .ok (.list xs)
  | _ => .bad
def OpW (cad : Cad) (K : PySem.W.Frag) (W : WX) (o : Dat → Dat → Out Dat) (r : R2) : Prop := ∀ (σ : L2.St) (g : Gh) (H : Hp) (x y : V) (d e : Dat) (Q : VK), Kd g H → WRep K g H x d → WRep K g H y e →
  (o d e).sat (fun z => ∀ v H', Ex H H' → Rep K g H' v z → Q v H') (exE K cad W g H σ) → r x y H Q
section
variable {X : Cx} {cad : Cad} {W : WX} {a b c : Expr} {fa fb fc : QF} {pos : Pos}
theorem qw_var {i : Nat} {x : Str} (hN : X.N[i]? = some x) (hv : Vis X.env.scope x) (hd : (x == ("__debug__" : Str)) = false) (hcd : (x == ("__classdict__" : Str)) = false) : QW cad X W (.Name x pos) (qwVar i) :=
  PE.weak (pe_var hN hv hd hcd) fun σ H Q ⟨g, ρ, M, I, h⟩ => by
    unfold qwVar at h
    split at h
    · next d e =>
      obtain ⟨v, h1, h2⟩ := I.dat i d e
      exact ⟨v, h1, h v H (Ex.refl H) h2.weak⟩
    · next xs e =>
      obtain ⟨l, us, h1, h2, h3, h4⟩ := I.own i xs e
      exact ⟨.ref l, h1, h _ H (Ex.refl H) ⟨l, us, rfl, sq_of h2, h4⟩⟩
    · exact False.elim h
theorem opw_go {o : Dat → Dat → Out Dat} {r : R2} (ho : OpW cad X.K W o r) (σ : L2.St) (H : Hp) (Q : VK) (h : tQ X.K cad W (qOp o fa fb) σ H Q) : tOp r (tW X.K cad W fa) (tW X.K cad W fb) σ H Q := by
  obtain ⟨g, ρ, M, I, h⟩ := h
  refine tW.go I h.bnd fun d v H1 h1 e1 r1 => ?_
  refine tW.go (I.ex e1) (h1.bnd.mono (fun _ z => z) fun _ z => z.ex e1) fun d2 v2 H2 h2 e2 r2 => ?_
  refine ho σ g H2 v v2 d d2 Q ((I.kd.ex e1).ex e2) (r1.ex e2 (I.kd.ex e1)) r2 (h2.mono (fun z hz u H' e' r' => hz u H' ((e1.trans e2).trans e') r') fun _ z => (z.ex e1).ex e2)
theorem qe_opw {op : Operator} {r : R2} {o : Dat → Dat → Out Dat} (hr : OpR X (binaryOp op) r) (ho : OpW cad X.K W o r) (ha : QW cad X W a fa) (hb : QW cad X W b fb) : QE cad X W (.BinOp a op b pos) (qOp o fa fb) :=
  PE.weak (pe_op hr ha hb) fun σ H Q h => opw_go ho σ H Q h
theorem qe_cmpw {op : CmpOp} {r : R2} {o : Dat → Dat → Out Dat} (hr : OpR X (compareOp op) r) (ho : OpW cad X.K W o r) (ha : QW cad X W a fa) (hb : QW cad X W b fb) (hm : behindInMarks op b = false) : QE cad X W (.Compare a [op] [b] pos) (qOp o fa fb) :=
  PE.weak (pe_cmpR hr ha hb hm) fun σ H Q h => opw_go ho σ H Q h
end

/-! ### arithmetic -/
instance : DecidableRel CMul := fun i j => by unfold CMul; infer_instance
instance : DecidableRel CDiv := fun i j => by unfold CDiv; infer_instance
instance : DecidableRel CPow := fun i j => by unfold CPow; infer_instance
def addD : Dat → Dat → Out Dat
  | .int i, .int j => .ok (.int (i + j))
  | .str x, .str y => Out.when (decide (x.length + y.length ≤ 100000)) (.ok (.str (x ++ y)))
  | .list xs, .list ys => Out.when (decide (xs.length + ys.length ≤ 100000)) (.ok (.list (xs ++ ys)))
  | .tuple xs, .tuple ys => Out.when (decide (xs.length + ys.length ≤ 100000)) (.ok (.tuple (xs ++ ys)))
  | _, _ => .bad
def subD : Dat → Dat → Out Dat
  | .int i, .int j => .ok (.int (i - j))
  | _, _ => .bad
def mulD : Dat → Dat → Out Dat
  | .int i, .int j => Out.when (decide (CMul i j)) (.ok (.int (i * j)))
  | _, _ => .bad
def divD : Dat → Dat → Out Dat
  | .int i, .int j => Out.when (decide (CDiv i j)) (.ok (.int (i / j)))
  | _, _ => .bad
def modD : Dat → Dat → Out Dat
  | .int i, .int j => Out.when (decide (0 < j)) (.ok (.int (i % j)))
  | _, _ => .bad
def powD : Dat → Dat → Out Dat
  | .int i, .int j => Out.when (decide (CPow i j)) (.ok (.int (i ^ j.toNat)))
  | _, _ => .bad
/-- lists that may be locked -/
def rCatS (K : PySem.W.Frag) : R2 := fun x y H Q => ∃ l b xs zs, x = .ref l ∧ y = .ref b ∧ SqL K H l xs ∧ SqL K H b zs ∧ xs.length + zs.length ≤ sizeLine ∧ ∀ p, H p = none → Q (.ref p) (upd H p (.lst (xs ++ zs)))
theorem op_catS {X : Cx} : OpR X (binaryOp .Add) (rCatS X.K) := by
  intro pins s σ H x y v u Q I rx ry h
  obtain ⟨l, b, xs, zs, rfl, rfl, hH, hB, hz, q⟩ := h
  cases rx
  cases ry
  obtain ⟨its, r, ⟨⟨c1, d1, da1, s1⟩, n, e, hc, hd, hs⟩, _⟩ := I.list hH
  obtain ⟨its2, r2, ⟨⟨c2, d2, da2, s2⟩, n2, e2, hc2, hd2, hs2⟩, _⟩ := I.list hB
  simp only at hc hd hs hc2 hd2 hs2
  subst hc hd hs hc2 hd2 hs2
  have l1 := r.length
  have l2 := r2.length
  have ea : its.toArray ++ its2.toArray = (its ++ its2).toArray := by simp
  refine concat_meets ⟨_, e, rfl⟩ ⟨_, e2, rfl⟩ noFill_list_add seq_list_add PySem.F.slot_list_add PySem.F.entry_list_add (PySem.F.args_list_add_2 _ _) (list_addW l b its.toArray its2.toArray n n2 none none s1 s2 (by rw [List.size_toArray, List.size_toArray]; omega)) ⟨e, e2, ?_⟩
  rw [ea]
  exact ⟨.ref _, _, I.lnew (t' := s.toks) (r.append r2) (by rw [List.length_append]; omega), rfl, q _ I.fresh⟩
def rAddU (K : PySem.W.Frag) : R2 := fun x y H Q => rI0 (fun i j => .int (i + j)) x y H Q ∨ (∃ i j, x = .str i ∧ y = .str j ∧ i.length + j.length ≤ sizeLine ∧ Q (.str (i ++ j)) H) ∨ rCatS K x y H Q ∨ rCatA K x y H Q
theorem op_addU {X : Cx} : OpR X (binaryOp .Add) (rAddU X.K) := by
  intro pins s σ H x y v u Q I rx ry h
  rcases h with h | h | h | h
  · exact op_add pins s σ H x y v u Q I rx ry h
  · exact op_add_str pins s σ H x y v u Q I rx ry h
  · exact op_catS pins s σ H x y v u Q I rx ry h
  · exact op_catA pins s σ H x y v u Q I rx ry h
section
variable {K : PySem.W.Frag} {cad : Cad} {W : WX}
theorem ow_add : OpW cad K W addD (rAddU K) := fun σ g H x y d e Q k rx ry h => by
  unfold addD at h
  split at h
  · exact .inl ⟨_, _, wr_int rx, wr_int ry, h _ H (Ex.refl H) (.int _)⟩
  · obtain ⟨hz, h⟩ := h.whn
    exact .inr (.inl ⟨_, _, wr_str rx, wr_str ry, sz_of (of_decide_eq_true hz), h _ H (Ex.refl H) (.str _)⟩)
  · obtain ⟨hz, h⟩ := h.whn
    obtain ⟨l, us, e1, s1, t1⟩ := wr_lst rx
    obtain ⟨l2, us2, e2, s2, t2⟩ := wr_lst ry
    have hl := of_decide_eq_true hz
    rw [← t1.length, ← t2.length] at hl
    refine .inr (.inr (.inl ⟨l, l2, us, us2, e1, e2, s1, s2, sz_of hl, fun p np => h _ _ (Ex.new np) (.lst (.inl ⟨.inl upd_same, k.fresh np⟩) ((t1.append t2).ex (Ex.new np) k))⟩))
  · obtain ⟨hz, h⟩ := h.whn
    obtain ⟨l, us, e1, s1, t1⟩ := wr_tup rx
    obtain ⟨l2, us2, e2, s2, t2⟩ := wr_tup ry
    have hl := of_decide_eq_true hz
    rw [← t1.length, ← t2.length] at hl
    refine .inr (.inr (.inr ⟨l, l2, us, us2, e1, e2, s1, s2, sz_of hl, fun z => ?_, fun _ z => ?_, fun _ _ p np => h _ _ (Ex.new np) (.tup (st_of upd_same) ((t1.append t2).ex (Ex.new np) k))⟩))
    · subst z
      cases t1
      exact h _ H (Ex.refl H) (.tup s2 t2)
    · subst z
      cases t2
      rw [List.append_nil] at h
      exact h _ H (Ex.refl H) (.tup s1 t1)
  · exact False.elim h
theorem ow_sub : OpW cad K W subD (rI0 fun i j => .int (i - j)) := fun σ g H x y d e Q k rx ry h => by
  unfold subD at h
  split at h
  · exact ⟨_, _, wr_int rx, wr_int ry, h _ H (Ex.refl H) (.int _)⟩
  · exact False.elim h
theorem ow_mul : OpW cad K W mulD (rI CMul fun i j => .int (i * j)) := fun σ g H x y d e Q k rx ry h => by
  unfold mulD at h
  split at h
  · obtain ⟨hz, h⟩ := h.whn
    exact ⟨_, _, wr_int rx, wr_int ry, of_decide_eq_true hz, h _ H (Ex.refl H) (.int _)⟩
  · exact False.elim h
theorem ow_div : OpW cad K W divD (rI CDiv fun i j => .int (i / j)) := fun σ g H x y d e Q k rx ry h => by
  unfold divD at h
  split at h
  · obtain ⟨hz, h⟩ := h.whn
    exact ⟨_, _, wr_int rx, wr_int ry, of_decide_eq_true hz, h _ H (Ex.refl H) (.int _)⟩
  · exact False.elim h
theorem ow_mod : OpW cad K W modD (rI (fun _ j => 0 < j) fun i j => .int (i % j)) := fun σ g H x y d e Q k rx ry h => by
  unfold modD at h
  split at h
  · obtain ⟨hz, h⟩ := h.whn
    exact ⟨_, _, wr_int rx, wr_int ry, of_decide_eq_true hz, h _ H (Ex.refl H) (.int _)⟩
  · exact False.elim h
theorem ow_pow : OpW cad K W powD (rI CPow fun i j => .int (i ^ j.toNat)) := fun σ g H x y d e Q k rx ry h => by
  unfold powD at h
  split at h
  · obtain ⟨hz, h⟩ := h.whn
    exact ⟨_, _, wr_int rx, wr_int ry, of_decide_eq_true hz, h _ H (Ex.refl H) (.int _)⟩
  · exact False.elim h
end

/-! ### comparisons -/
mutual
/-- data without instances, of no great depth -/
def okd : Nat → Dat → Bool
  | _, .none => true
  | _, .bool _ => true
  | _, .int _ => true
  | _, .str x => PyData.strOk x
  | n + 1, .list ds => okds n ds
  | n + 1, .tuple ds => okds n ds
  | 0, .list _ => false
  | 0, .tuple _ => false
  | _, .dict _ => false
def okds : Nat → List Dat → Bool
  | _, [] => true
  | n, d :: ds => okd n d && okds n ds
end
mutual
theorem okd_lay : ∀ (n : Nat) (d : Dat), okd n d = true → d.canLay0 = true ∧ d.depth ≤ n
  | n, .none, _ => ⟨by simp [PyData.canLay0], by simp [PyData.depth]⟩
  | n, .bool _, _ => ⟨by simp [PyData.canLay0], by simp [PyData.depth]⟩
  | n, .int _, _ => ⟨by simp [PyData.canLay0], by simp [PyData.depth]⟩
  | n, .str x, h => ⟨by rw [okd] at h; simp [PyData.canLay0, h], by simp [PyData.depth]⟩
  | n + 1, .list ds, h => by
    rw [okd] at h
    obtain ⟨h1, h2⟩ := okds_lay n ds h
    exact ⟨by simp [PyData.canLay0, h1], by simp [PyData.depth]; omega⟩
  | n + 1, .tuple ds, h => by
    rw [okd] at h
    obtain ⟨h1, h2⟩ := okds_lay n ds h
    exact ⟨by simp [PyData.canLay0, h1], by simp [PyData.depth]; omega⟩
  | 0, .list _, h => by rw [okd] at h; cases h
  | 0, .tuple _, h => by rw [okd] at h; cases h
  | n, .dict _, h => by rw [okd] at h; cases h
theorem okds_lay : ∀ (n : Nat) (ds : List Dat), okds n ds = true → PyData.canLayAll0 ds = true ∧ PyData.depthAll ds ≤ n
  | n, [], _ => ⟨by simp [PyData.canLayAll0], by simp [PyData.depthAll]⟩
  | n, d :: ds, h => by
    rw [okds, Bool.and_eq_true] at h
    obtain ⟨h1, h2⟩ := okd_lay n d h.1
    obtain ⟨h3, h4⟩ := okds_lay n ds h.2
    exact ⟨by simp [PyData.canLayAll0, h1, h3], by simp [PyData.depthAll]; omega⟩
end
mutual
theorem Rep.dp {K : PySem.W.Frag} {g : Gh} {H : Hp} : ∀ {n : Nat} {v : V} {d : Dat}, okd n d = true → Rep K g H v d → Dp K H v d
  | _, _, _, _, .non => .non
  | _, _, _, _, .bl b => .bl b
  | _, _, _, _, .int i => .int i
  | _, _, _, _, .str x => .str x
  | n + 1, _, _, f, .tup h t => .tup h (Reps.dp (n := n) (by rw [okd] at f; exact f) t)
  | n + 1, _, _, f, .lst h t => .lst h.sq (Reps.dp (n := n) (by rw [okd] at f; exact f) t)
  | 0, _, _, f, .tup h t => by rw [okd] at f; cases f
  | 0, _, _, f, .lst h t => by rw [okd] at f; cases f
  | _, _, _, f, .obj h => by rw [okd] at f; cases f
theorem Reps.dp {K : PySem.W.Frag} {g : Gh} {H : Hp} : ∀ {n : Nat} {vs : List V} {ds : List Dat}, okds n ds = true → Reps K g H vs ds → DpAll K H vs ds
  | _, _, _, _, .nil => .nil
  | n, _, _, f, .cons h t => .cons (Rep.dp (n := n) (by rw [okds, Bool.and_eq_true] at f; exact f.1) h) (Reps.dp (n := n) (by rw [okds, Bool.and_eq_true] at f; exact f.2) t)
end
theorem WRep.dp {K : PySem.W.Frag} {g : Gh} {H : Hp} {n : Nat} {v : V} {d : Dat} (f : okd n d = true) (h : WRep K g H v d) : Dp K H v d := by
  cases d with
  | list ds =>
    obtain ⟨a, us, rfl, h2, h3⟩ := h
    cases n with
    | zero => rw [okd] at f; cases f
    | succ n =>
      rw [okd] at f
      exact .lst h2 (h3.dp f)
  | _ => exact Rep.dp f h
theorem okd_shaped {n : Nat} {d : Dat} (h : okd n d = true) (hn : n ≤ 64) : SeqAt.shaped d = true := by
  obtain ⟨h1, h2⟩ := okd_lay n d h
  unfold SeqAt.shaped
  rw [h1, Bool.true_and]
  exact decide_eq_true (Nat.le_trans h2 hn)
/-- ==, of scalars of any kind without a look at them, else of data -/
def eqB : Dat → Dat → Out Bool
  | .int i, .int j => .ok (i == j)
  | .str x, .str y => .ok (x == y)
  | .bool x, .bool y => .ok (x == y)
  | .none, .none => .ok true
  | d, e => Out.when (okd 12 d && okd 12 e) (.ok (PyData.eqv d e))
def eqD (d e : Dat) : Out Dat := (eqB d e).bind fun b => .ok (.bool b)
def neD (d e : Dat) : Out Dat := (eqB d e).bind fun b => .ok (.bool (!b))
def rEqU (K : PySem.W.Frag) : R2 := fun x y H Q => rEq x y H Q ∨ rEqD K x y H Q
def rNeU (K : PySem.W.Frag) : R2 := fun x y H Q => rNe x y H Q ∨ rNeD K x y H Q
theorem op_eqU {X : Cx} (hu : X.A.units + 64 < cLine) : OpR X (compareOp .Eq) (rEqU X.K) := fun pins s σ H x y v u Q I rx ry h => h.elim (fun h => op_eq pins s σ H x y v u Q I rx ry h) (fun h => op_eqD hu pins s σ H x y v u Q I rx ry h)
theorem op_neU {X : Cx} (hu : X.A.units + 64 < cLine) : OpR X (compareOp .NotEq) (rNeU X.K) := fun pins s σ H x y v u Q I rx ry h => h.elim (fun h => op_ne pins s σ H x y v u Q I rx ry h) (fun h => op_neD hu pins s σ H x y v u Q I rx ry h)
section
variable {K : PySem.W.Frag} {cad : Cad} {W : WX} {g : Gh} {H : Hp}
theorem eqB_go {x y : V} {d e : Dat} {P : Bool → Prop} {E : Exn → Prop} (rx : WRep K g H x d) (ry : WRep K g H y e) (h : (eqB d e).sat P E) : (scal x y = true ∧ P (decide (x = y))) ∨ (∃ d e, Dp K H x d ∧ Dp K H y e ∧ SeqAt.shaped d = true ∧ SeqAt.shaped e = true ∧ P (PyData.eqv d e)) := by
  unfold eqB at h
  split at h
  · cases wr_int rx; cases wr_int ry
    rw [dec_int]
    exact .inl ⟨rfl, h⟩
  · cases wr_str rx; cases wr_str ry
    rw [dec_str]
    exact .inl ⟨rfl, h⟩
  · cases wr_bl rx; cases wr_bl ry
    rw [dec_bl]
    exact .inl ⟨rfl, h⟩
  · cases wr_non rx; cases wr_non ry
    exact .inl ⟨rfl, h⟩
  · obtain ⟨hz, h⟩ := h.whn
    rw [Bool.and_eq_true] at hz
    exact .inr ⟨_, _, rx.dp hz.1, ry.dp hz.2, okd_shaped hz.1 (by decide), okd_shaped hz.2 (by decide), h⟩
theorem ow_eq : OpW cad K W eqD (rEqU K) := fun σ g H x y d e Q k rx ry h => by
  rcases eqB_go rx ry h.bnd with ⟨h1, h2⟩ | ⟨d, e, h1, h2, h3, h4, h5⟩
  · exact .inl ⟨h1, h2 _ H (Ex.refl H) (.bl _)⟩
  · exact .inr ⟨d, e, h1, h2, h3, h4, h5 _ H (Ex.refl H) (.bl _)⟩
theorem ow_ne : OpW cad K W neD (rNeU K) := fun σ g H x y d e Q k rx ry h => by
  rcases eqB_go rx ry h.bnd with ⟨h1, h2⟩ | ⟨d, e, h1, h2, h3, h4, h5⟩
  · exact .inl ⟨h1, h2 _ H (Ex.refl H) (.bl _)⟩
  · exact .inr ⟨d, e, h1, h2, h3, h4, h5 _ H (Ex.refl H) (.bl _)⟩
end
/-- <, of ints and of data -/
def ltD : Dat → Dat → Out Dat
  | .int i, .int j => .ok (.bool (decide (i < j)))
  | .tuple ds, .tuple es => Out.when (okd 12 (.tuple ds) && okd 12 (.tuple es) && PySem.W.alike (.tuple ds) (.tuple es)) (.ok (.bool (PySem.W.dataLt (.tuple ds) (.tuple es))))
  | _, _ => .bad
def leD : Dat → Dat → Out Dat
  | .int i, .int j => .ok (.bool (decide (i ≤ j)))
  | _, _ => .bad
def gtD : Dat → Dat → Out Dat
  | .int i, .int j => .ok (.bool (decide (j < i)))
  | _, _ => .bad
def geD : Dat → Dat → Out Dat
  | .int i, .int j => .ok (.bool (decide (j ≤ i)))
  | _, _ => .bad
def rLtU (K : PySem.W.Frag) : R2 := fun x y H Q => rI0 (fun i j => .bl (decide (i < j))) x y H Q ∨ Ear.rLtDat K x y H Q
theorem op_ltU {X : Cx} (hu : X.A.units + 65 < cLine) : OpR X (compareOp .Lt) (rLtU X.K) := fun pins s σ H x y v u Q I rx ry h => h.elim (fun h => op_lt pins s σ H x y v u Q I rx ry h) (fun h => Ear.op_ltDat hu pins s σ H x y v u Q I rx ry h)
section
variable {K : PySem.W.Frag} {cad : Cad} {W : WX} {g : Gh} {H : Hp}
theorem ow_lt : OpW cad K W ltD (rLtU K) := fun σ g H x y d e Q k rx ry h => by
  unfold ltD at h
  split at h
  · exact .inl ⟨_, _, wr_int rx, wr_int ry, h _ H (Ex.refl H) (.bl _)⟩
  · obtain ⟨hz, h⟩ := h.whn
    simp only [Bool.and_eq_true] at hz
    refine .inr ?_
    unfold Ear.rLtDat
    exact ⟨_, _, rx.dp hz.1.1, ry.dp hz.1.2, hz.2, (fun z => nomatch z), Nat.le_trans (okd_lay _ _ hz.1.1).2 (by decide), h _ H (Ex.refl H) (.bl _)⟩
  · exact False.elim h
theorem ow_le : OpW cad K W leD (rI0 fun i j => .bl (decide (i ≤ j))) := fun σ g H x y d e Q k rx ry h => by
  unfold leD at h
  split at h
  · exact ⟨_, _, wr_int rx, wr_int ry, h _ H (Ex.refl H) (.bl _)⟩
  · exact False.elim h
theorem ow_gt : OpW cad K W gtD (rI0 fun i j => .bl (decide (j < i))) := fun σ g H x y d e Q k rx ry h => by
  unfold gtD at h
  split at h
  · exact ⟨_, _, wr_int rx, wr_int ry, h _ H (Ex.refl H) (.bl _)⟩
  · exact False.elim h
theorem ow_ge : OpW cad K W geD (rI0 fun i j => .bl (decide (j ≤ i))) := fun σ g H x y d e Q k rx ry h => by
  unfold geD at h
  split at h
  · exact ⟨_, _, wr_int rx, wr_int ry, h _ H (Ex.refl H) (.bl _)⟩
  · exact False.elim h
end
end Rf
/-! # R3: is, in, truth, and, or, not, conditional expressions, chains, items, slices -/
namespace Rf
open PySem PySem.Spec PyProof.Rows L2 Evl

/-! ### x is None, True, False -/
def isCB (c : Dat) : Dat → Bool
  | .none => match c with
    | .none => true
    | _ => false
  | .bool b => match c with
    | .bool b' => b == b'
    | _ => false
  | _ => false
def scD : Dat → Option V
  | .none => some .non
  | .bool b => some (.bl b)
  | _ => none
theorem isC_dec {K : PySem.W.Frag} {g : Gh} {H : Hp} {x : V} {d c : Dat} {v : V} (h : WRep K g H x d) (hc : scD c = some v) : decide (x = v) = isCB c d := by
  cases c with
  | none =>
    cases hc
    cases d with
    | none => cases wr_non h; rfl
    | bool b => cases wr_bl h; rfl
    | int b => cases wr_int h; rfl
    | str b => cases wr_str h; rfl
    | list b => obtain ⟨a, us, rfl, _⟩ := wr_lst h; rfl
    | tuple b => obtain ⟨a, us, rfl, _⟩ := wr_tup h; rfl
    | dict b => cases h; rfl
  | bool c =>
    cases hc
    cases d with
    | none => cases wr_non h; rfl
    | bool b => cases wr_bl h; exact dec_bl
    | int b => cases wr_int h; rfl
    | str b => cases wr_str h; rfl
    | list b => obtain ⟨a, us, rfl, _⟩ := wr_lst h; rfl
    | tuple b => obtain ⟨a, us, rfl, _⟩ := wr_tup h; rfl
    | dict b => cases h; rfl
  | _ => cases hc
/-- x is (not) a constant -/
def rIsC (neg : Bool) (v : V) : R2 := fun x y H Q => y = v ∧ Q (.bl (neg ^^ decide (x = v))) H
theorem rel_ne {x v : V} {u w : Value} (hv : v = .non ∨ ∃ b, v = .bl b) (rx : RelV x u) (rv : RelV v w) : (u == w) = decide (x = v) := by
  rcases hv with rfl | ⟨b, rfl⟩
  · cases rv
    exact rx.none_iff
  · cases rv
    rw [Bool.eq_iff_iff, beq_iff_eq, decide_eq_true_eq]
    constructor
    · rintro rfl
      cases x with
      | bl c => cases rx; rfl
      | non => cases rx
      | ref _ => cases rx
      | ty _ => cases rx
      | _ => obtain ⟨t, z⟩ := rx; cases z
    · rintro rfl
      exact rx
theorem plainIs_c {x v : V} {u w : Value} (hv : v = .non ∨ ∃ b, v = .bl b) (rx : RelV x u) (rv : RelV v w) : plainIs u w = true := by
  rcases hv with rfl | ⟨b, rfl⟩ <;> (cases rv; cases x <;> first | (cases rx; rfl) | (obtain ⟨t, rfl⟩ := rx; rfl))
theorem op_isC {X : Cx} {v : V} (hv : v = .non ∨ ∃ b, v = .bl b) : OpR X (compareOp .Is) (rIsC false v) := by
  intro pins s σ H x y u w Q I rx ry h
  obtain ⟨rfl, q⟩ := h
  refine wpAny_is_plain (plainIs_c hv rx ry) ?_
  rw [rel_ne hv rx ry]
  rw [Bool.false_xor] at q
  exact ⟨.bl _, H, I, rfl, q⟩
theorem op_isNotC {X : Cx} {v : V} (hv : v = .non ∨ ∃ b, v = .bl b) : OpR X (compareOp .IsNot) (rIsC true v) := by
  intro pins s σ H x y u w Q I rx ry h
  obtain ⟨rfl, q⟩ := h
  refine wpAny_isNot_plain (plainIs_c hv rx ry) ?_
  rw [rel_ne hv rx ry]
  rw [Bool.true_xor] at q
  exact ⟨.bl _, H, I, rfl, q⟩
def qIs (neg : Bool) (c : Dat) (a : QF) : QF := fun M ρ => (a M ρ).bind fun d => .ok (.bool (neg ^^ isCB c d))
section
variable {X : Cx} {cad : Cad} {W : WX} {a b c : Expr} {fa fb fc : QF} {pos : Pos}
theorem qe_is {op : CmpOp} {neg : Bool} {d : Dat} {v : V} (hc : scD d = some v) (hr : OpR X (compareOp op) (rIsC neg v)) (ha : QW cad X W a fa) (hb : PE X b (tC v)) (hm : behindInMarks op b = false) : QE cad X W (.Compare a [op] [b] pos) (qIs neg d fa) :=
  PE.weak (pe_cmpR hr ha hb hm) fun σ H Q ⟨g, ρ, M, I, h⟩ => by
    refine tW.go I h.bnd fun e x H1 h1 e1 r1 => ?_
    refine ⟨rfl, ?_⟩
    rw [isC_dec r1 hc]
    exact h1 _ H1 e1 (.bl _)
end

/-! ### in -/
def flD : Dat → Bool
  | .none => true
  | .bool _ => true
  | .int _ => true
  | .str _ => true
  | _ => false
def inB : Dat → Dat → Out Bool
  | d, .list ds => Out.when (okd 12 d && okds 12 ds) (.ok (ds.any fun z => PyData.eqv z d))
  | d, .tuple ds => Out.when (flD d && ds.all flD) (.ok (ds.any fun z => PyData.eqv z d))
  | .str x, .str z => match x.cps.toList with
    | [c] => .ok (decide (c ∈ z.cps.toList))
    | _ => .bad
  | _, _ => .bad
def inD (neg : Bool) (d e : Dat) : Out Dat := (inB d e).bind fun b => .ok (.bool (neg ^^ b))
section
variable {K : PySem.W.Frag} {g : Gh} {H : Hp}
theorem flat_rep {v : V} {d : Dat} (f : flD d = true) (h : Rep K g H v d) : flatV v = true := by
  cases h with
  | tup _ _ => cases f
  | lst _ _ => cases f
  | obj _ => cases f
  | _ => rfl
theorem flat_reps : ∀ {vs : List V} {ds : List Dat}, ds.all flD = true → Reps K g H vs ds → vs.all flatV = true
  | _, _, _, .nil => rfl
  | _, _, f, .cons h t => by
    rw [List.all_cons, Bool.and_eq_true] at f
    rw [List.all_cons, flat_rep f.1 h, flat_reps f.2 t]
    rfl
theorem eqV_eqv {v w : V} {d e : Dat} (f1 : flD d = true) (f2 : flD e = true) (h1 : Rep K g H v d) (h2 : Rep K g H w e) : eqV v w = PyData.eqv d e := by
  cases h1 with
  | tup _ _ => cases f1
  | lst _ _ => cases f1
  | obj _ => cases f1
  | non => cases h2 with
    | tup _ _ => cases f2
    | lst _ _ => cases f2
    | obj _ => cases f2
    | _ => simp [eqV, PyData.eqv]
  | bl b => cases h2 with
    | tup _ _ => cases f2
    | lst _ _ => cases f2
    | obj _ => cases f2
    | _ => simp [eqV, PyData.eqv]
  | int b => cases h2 with
    | tup _ _ => cases f2
    | lst _ _ => cases f2
    | obj _ => cases f2
    | _ => simp [eqV, PyData.eqv]
  | str b => cases h2 with
    | tup _ _ => cases f2
    | lst _ _ => cases f2
    | obj _ => cases f2
    | _ => simp [eqV, PyData.eqv]
theorem inV_eqv {w : V} {e : Dat} (f2 : flD e = true) (h2 : Rep K g H w e) : ∀ {vs : List V} {ds : List Dat}, ds.all flD = true → Reps K g H vs ds → inV w vs = ds.any fun z => PyData.eqv z e
  | _, _, _, .nil => rfl
  | v :: vs, d :: ds, f, .cons h t => by
    rw [List.all_cons, Bool.and_eq_true] at f
    have ih := inV_eqv f2 h2 f.2 t
    unfold inV at ih ⊢
    rw [List.any_cons, List.any_cons, ih, eqV_eqv f.1 f2 h h2]
theorem wr_flat {v : V} {d : Dat} (f : flD d = true) (h : WRep K g H v d) : Rep K g H v d := by
  cases d with
  | list _ => cases f
  | _ => exact h
end
def rInU (K : PySem.W.Frag) (neg : Bool) : R2 := fun x y H Q => (∃ d ds, Dp K H x d ∧ Dp K H y (.list ds) ∧ SeqAt.shaped d = true ∧ SeqAt.shaped (.list ds) = true ∧ Q (.bl (neg ^^ (ds.any fun z => PyData.eqv z d))) H) ∨
  (∃ p xs, y = .ref p ∧ (SqL K H p xs ∨ SqT K H p xs) ∧ flatV x = true ∧ xs.all flatV = true ∧ Q (.bl (neg ^^ inV x xs)) H) ∨ ∃ (c : Nat) (z : Str), x = .str ⟨#[c]⟩ ∧ y = .str z ∧ Q (.bl (neg ^^ decide (c ∈ z.cps.toList))) H
theorem op_inU {X : Cx} (hu : X.A.units + 65 < cLine) : OpR X (compareOp .In) (rInU X.K false) := fun pins s σ H x y v u Q I rx ry h => by
  unfold rInU at h
  simp only [Bool.false_xor] at h
  rcases h with ⟨d, ds, h⟩ | ⟨p, xs, h⟩ | h
  · exact op_inD hu pins s σ H x y v u Q I rx ry ⟨d, ds, h⟩
  · exact op_in_seq pins s σ H x y v u Q I rx ry ⟨p, xs, h⟩
  · exact op_in_sign pins s σ H x y v u Q I rx ry h
theorem op_notInU {X : Cx} (hu : X.A.units + 65 < cLine) : OpR X (compareOp .NotIn) (rInU X.K true) := fun pins s σ H x y v u Q I rx ry h => by
  unfold rInU at h
  simp only [Bool.true_xor] at h
  rcases h with ⟨d, ds, h⟩ | ⟨p, xs, h⟩ | h
  · exact op_notInD hu pins s σ H x y v u Q I rx ry ⟨d, ds, h⟩
  · exact op_notIn_seq pins s σ H x y v u Q I rx ry ⟨p, xs, h⟩
  · exact op_notIn_sign pins s σ H x y v u Q I rx ry h
theorem ow_in {K : PySem.W.Frag} {cad : Cad} {W : WX} {neg : Bool} : OpW cad K W (inD neg) (rInU K neg) := fun σ g H x y d e Q k rx ry h => by
  replace h := Out.sat.bnd h
  unfold inB at h
  split at h
  · next ds =>
    obtain ⟨hz, h⟩ := h.whn
    rw [Bool.and_eq_true] at hz
    have e2 : okd 13 (.list ds) = true := by rw [okd]; exact hz.2
    exact .inl ⟨_, ds, rx.dp hz.1, ry.dp e2, okd_shaped hz.1 (by decide), okd_shaped e2 (by decide), h _ H (Ex.refl H) (.bl _)⟩
  · next ds =>
    obtain ⟨hz, h⟩ := h.whn
    rw [Bool.and_eq_true] at hz
    obtain ⟨p, us, rfl, h1, h2⟩ := wr_tup ry
    have rx' := wr_flat hz.1 rx
    refine .inr (.inl ⟨p, us, rfl, .inr h1, flat_rep hz.1 rx', flat_reps hz.2 h2, ?_⟩)
    rw [inV_eqv hz.1 rx' hz.2 h2]
    exact h _ H (Ex.refl H) (.bl _)
  · next xs z =>
    split at h
    · next c e =>
      refine .inr (.inr ⟨c, z, ?_, wr_str ry, h _ H (Ex.refl H) (.bl _)⟩)
      rw [wr_str rx]
      congr 1
      have : xs.cps = #[c] := by
        apply Array.toList_inj.mp
        rw [e]
      cases xs
      simp only at this
      rw [this]
    · exact False.elim h
  · exact False.elim h

/-! ### unary, truth -/
def negD : Dat → Out Dat
  | .int i => .ok (.int (-i))
  | _ => .bad
def truB : Dat → Out Bool
  | .none => .ok false
  | .bool b => .ok b
  | .int i => .ok (i != 0)
  | .str x => Out.when (decide (x.length ≤ 100000)) (.ok (!x.cps.toList.isEmpty))
  | .list ds => .ok (!ds.isEmpty)
  | .tuple ds => .ok (!ds.isEmpty)
  | _ => .bad
def qTru (a : QF) : QT := fun M ρ => (a M ρ).bind truB
/-- a value that is a bool already -/
def blB : Dat → Out Bool
  | .bool b => .ok b
  | _ => .bad
def qBl (a : QF) : QT := fun M ρ => (a M ρ).bind blB
def qtNot (a : QT) : QT := fun M ρ => (a M ρ).bind fun b => .ok (!b)
def qtAnd (a b : QT) : QT := fun M ρ => (a M ρ).bind fun x => if x = true then b M ρ else .ok false
def qtOr (a b : QT) : QT := fun M ρ => (a M ρ).bind fun x => if x = true then .ok true else b M ρ
/-- a test's outcome as a value -/
def qOf (a : QT) : QF := fun M ρ => (a M ρ).bind fun b => .ok (.bool b)
def qIf (t : QT) (a b : QF) : QF := fun M ρ => (t M ρ).bind fun x => if x = true then a M ρ else b M ρ
theorem reps_empty {K : PySem.W.Frag} {g : Gh} {H : Hp} {us : List V} {ds : List Dat} (h : Reps K g H us ds) : (!ds.isEmpty) = !us.isEmpty := by cases h <;> rfl
section
variable {X : Cx} {cad : Cad} {W : WX} {a b c : Expr} {fa fb fc : QF} {ta tb : QT} {pos : Pos}
theorem qe_neg (ha : QW cad X W a fa) : QE cad X W (.UnaryOp .USub a pos) (qUn negD fa) :=
  PE.weak (pe_un un_neg ha) fun σ H Q ⟨g, ρ, M, I, h⟩ => by
    refine tW.go I h.bnd fun d v H1 h1 e1 r1 => ?_
    unfold negD at h1
    split at h1
    · exact ⟨_, wr_int r1, h1 _ H1 e1 (.int _)⟩
    · exact False.elim h1
theorem tru_go {g : Gh} {H : Hp} {v : V} {d : Dat} {P : Bool → Prop} {E : Exn → Prop} (r : WRep X.K g H v d) (h : (truB d).sat P E) : ∃ k, TruV X.K v H k ∧ P k := by
  unfold truB at h
  split at h
  · cases wr_non r; exact ⟨_, rfl, h⟩
  · cases wr_bl r; exact ⟨_, rfl, h⟩
  · cases wr_int r; exact ⟨_, rfl, h⟩
  · next x =>
    obtain ⟨hz, h⟩ := h.whn
    cases wr_str r
    refine ⟨_, ⟨sz_of (of_decide_eq_true hz), ?_⟩, h⟩
    have e : x.length = x.cps.toList.length := by
      rw [Array.length_toList]
      rfl
    rw [e]
    cases x.cps.toList with
    | nil => rfl
    | cons y ys =>
      refine Eq.symm (bne_iff_ne.mpr ?_)
      simp
      omega
  · obtain ⟨p, us, rfl, h1, h2⟩ := wr_lst r
    rw [reps_empty h2] at h
    exact ⟨_, .inl ⟨us, h1, rfl⟩, h⟩
  · obtain ⟨p, us, rfl, h1, h2⟩ := wr_tup r
    rw [reps_empty h2] at h
    exact ⟨_, .inr (.inl ⟨us, h1, rfl⟩), h⟩
  · exact False.elim h
theorem qt_tru (ha : QW cad X W a fa) (he : ∀ whole, isTrue a X.env whole = (do let v ← whole; standAt a.pos; holding [v] (truthy v))) : QTe cad X W a (qTru fa) :=
  PT.weak (pt_truth ha he) fun σ H Q ⟨g, ρ, M, I, h⟩ => by
    refine tW.go I h.bnd fun d v H1 h1 e1 r1 => ?_
    obtain ⟨k, h2, h3⟩ := tru_go r1 h1
    exact ⟨k, h2, h3 H1 e1⟩
theorem bl_go {g : Gh} {H : Hp} {v : V} {d : Dat} {P : Bool → Prop} {E : Exn → Prop} (r : WRep X.K g H v d) (h : (blB d).sat P E) : ∃ k, v = .bl k ∧ P k := by
  unfold blB at h
  split at h
  · cases wr_bl r; exact ⟨_, rfl, h⟩
  · exact False.elim h
theorem qt_cmp {op : CmpOp} {r : R2} {o : Dat → Dat → Out Dat} (hr : OpR X (compareOp op) r) (ho : OpW cad X.K W o r) (ha : QW cad X W a fa) (hb : QW cad X W b fb) (hm : behindInMarks op b = false) : QTe cad X W (.Compare a [op] [b] pos) (qBl (qOp o fa fb)) :=
  PT.weak (pt_cmpR hr ha hb hm) fun σ H Q ⟨g, ρ, M, I, h⟩ => by
    refine opw_go ho σ H _ ⟨g, ρ, M, I, h.bnd.mono (fun d h1 v H' e' r' => ?_) fun _ z => z⟩
    obtain ⟨k, h2, h3⟩ := bl_go r'.weak h1
    exact ⟨k, h2, h3 H' e'⟩
theorem qt_is {op : CmpOp} {neg : Bool} {d : Dat} {v : V} (hc : scD d = some v) (hr : OpR X (compareOp op) (rIsC neg v)) (ha : QW cad X W a fa) (hb : PE X b (tC v)) (hm : behindInMarks op b = false) : QTe cad X W (.Compare a [op] [b] pos) (qBl (qIs neg d fa)) :=
  PT.weak (pt_cmpR hr ha hb hm) fun σ H Q ⟨g, ρ, M, I, h⟩ => by
    refine tW.go I h.bnd.bnd fun e x H1 h1 e1 r1 => ?_
    refine ⟨rfl, _, rfl, ?_⟩
    rw [isC_dec r1 hc]
    exact h1 H1 e1
theorem qt_not (ha : QTe cad X W a ta) : QTe cad X W (.UnaryOp .Not a pos) (qtNot ta) :=
  PT.weak (pt_not ha) fun σ H Q ⟨g, ρ, M, I, h⟩ => tQT.go I h.bnd fun b H1 h1 e1 => h1 H1 e1
def QWt (cad : Cad) (X : Cx) (W : WX) (e : Expr) (f : QT) : Prop := PW X e (tQT X.K cad W f)
theorem PW.weak {X : Cx} {e : Expr} {t t' : TT} (h : PW X e t) (k : ∀ σ H Q, t' σ H Q → t σ H Q) : PW X e t' := ⟨fun wh pins s σ H Q I q => h.run wh pins s σ H Q I (k σ H Q q)⟩
theorem qw_and1 (ha : QTe cad X W a ta) : QWt cad X W (.BoolOp .And [a] pos) ta := pw_and1 ha
theorem qw_or1 (ha : QTe cad X W a ta) : QWt cad X W (.BoolOp .Or [a] pos) ta := pw_or1 ha
theorem qw_and {rest : List Expr} (ha : QTe cad X W a ta) (hb : QWt cad X W (.BoolOp .And (b :: rest) pos) tb) : QWt cad X W (.BoolOp .And (a :: b :: rest) pos) (qtAnd ta tb) :=
  PW.weak (pw_and ha hb) fun σ H Q ⟨g, ρ, M, I, h⟩ => by
    refine tQT.go I h.bnd fun x H1 h1 e1 => ?_
    cases x with
    | true => exact ⟨g, ρ, M, I.ex e1, h1.mono (fun b k H' e' => k H' (e1.trans e')) fun _ z => z.ex e1⟩
    | false => exact h1 H1 e1
theorem qw_or {rest : List Expr} (ha : QTe cad X W a ta) (hb : QWt cad X W (.BoolOp .Or (b :: rest) pos) tb) : QWt cad X W (.BoolOp .Or (a :: b :: rest) pos) (qtOr ta tb) :=
  PW.weak (pw_or ha hb) fun σ H Q ⟨g, ρ, M, I, h⟩ => by
    refine tQT.go I h.bnd fun x H1 h1 e1 => ?_
    cases x with
    | true => exact h1 H1 e1
    | false => exact ⟨g, ρ, M, I.ex e1, h1.mono (fun b k H' e' => k H' (e1.trans e')) fun _ z => z.ex e1⟩
/-- not, and, or as values: of bools -/
def qNotV (a : QF) : QF := qOf (qtNot (qBl a))
def qAndV (a b : QF) : QF := fun M ρ => (a M ρ).bind fun d => (blB d).bind fun x => if x = true then b M ρ else .ok (.bool false)
def qOrV (a b : QF) : QF := fun M ρ => (a M ρ).bind fun d => (blB d).bind fun x => if x = true then .ok (.bool true) else b M ρ
theorem qe_notV (ha : QW cad X W a fa) : QE cad X W (.UnaryOp .Not a pos) (qNotV fa) :=
  PE.weak (pe_not ha) fun σ H Q ⟨g, ρ, M, I, h⟩ => by
    refine tW.go I h.bnd.bnd.bnd fun d v H1 h1 e1 r1 => ?_
    obtain ⟨k, h2, h3⟩ := bl_go r1 h1
    exact ⟨k, h2, h3 _ H1 e1 (.bl _)⟩
theorem qe_andV {rest : List Expr} (ha : QE cad X W a fa) (hb : QE cad X W (.BoolOp .And (b :: rest) pos) fb) : QE cad X W (.BoolOp .And (a :: b :: rest) pos) (qAndV fa fb) :=
  PE.weak (pe_and ha hb) fun σ H Q ⟨g, ρ, M, I, h⟩ => by
    refine tQ.go I h.bnd fun d v H1 h1 e1 r1 => ?_
    obtain ⟨k, h2, h3⟩ := bl_go r1.weak h1.bnd
    refine ⟨k, h2, ?_⟩
    cases k with
    | true => exact ⟨g, ρ, M, I.ex e1, h3.mono (fun b k v' H' e' r' => k v' H' (e1.trans e') r') fun _ z => z.ex e1⟩
    | false => exact h3 _ H1 e1 (.bl false)
theorem qe_orV {rest : List Expr} (ha : QE cad X W a fa) (hb : QE cad X W (.BoolOp .Or (b :: rest) pos) fb) : QE cad X W (.BoolOp .Or (a :: b :: rest) pos) (qOrV fa fb) :=
  PE.weak (pe_or ha hb) fun σ H Q ⟨g, ρ, M, I, h⟩ => by
    refine tQ.go I h.bnd fun d v H1 h1 e1 r1 => ?_
    obtain ⟨k, h2, h3⟩ := bl_go r1.weak h1.bnd
    refine ⟨k, h2, ?_⟩
    cases k with
    | false => exact ⟨g, ρ, M, I.ex e1, h3.mono (fun b k v' H' e' r' => k v' H' (e1.trans e') r') fun _ z => z.ex e1⟩
    | true => exact h3 _ H1 e1 (.bl true)
theorem qe_ifExp (hc : QTe cad X W c ta) (ha : QE cad X W a fa) (hb : QE cad X W b fb) : QE cad X W (.IfExp c a b pos) (qIf ta fa fb) :=
  PE.weak (pe_ifExp hc ha hb) fun σ H Q ⟨g, ρ, M, I, h⟩ => by
    refine tQT.go I h.bnd fun x H1 h1 e1 => ?_
    cases x with
    | true => exact ⟨g, ρ, M, I.ex e1, h1.mono (fun b k v' H' e' r' => k v' H' (e1.trans e') r') fun _ z => z.ex e1⟩
    | false => exact ⟨g, ρ, M, I.ex e1, h1.mono (fun b k v' H' e' r' => k v' H' (e1.trans e') r') fun _ z => z.ex e1⟩
/-- a <= b <= c -/
def qChain (o o' : Dat → Dat → Out Dat) (a b c : QF) : QT := fun M ρ => (a M ρ).bind fun x => (b M ρ).bind fun y => (o x y).bind fun z => (blB z).bind fun k => if k = true then (c M ρ).bind fun w => (o' y w).bind blB else .ok false
theorem chain_go {r r' : R2} {o o' : Dat → Dat → Out Dat} (ho : OpW cad X.K W o r) (ho' : OpW cad X.K W o' r') {σ : L2.St} {H : Hp} {Q : VK} {P : Bool → Hp → Prop} (hP : ∀ k H', P k H' → Q (.bl k) H') (h : tQT X.K cad W (qChain o o' fa fb fc) σ H P) : tChain r r' (tW X.K cad W fa) (tW X.K cad W fb) (tW X.K cad W fc) σ H Q := by
  obtain ⟨g, ρ, M, I, h⟩ := h
  refine tW.go I h.bnd fun d v H1 h1 e1 r1 => ?_
  have I1 := I.ex e1
  refine tW.go I1 (h1.bnd.mono (fun _ z => z) fun _ z => z.ex e1) fun d2 v2 H2 h2 e2 r2 => ?_
  have I2 := I1.ex e2
  have r1' := r1.ex e2 I1.kd
  refine ho σ g H2 v v2 d d2 _ I2.kd r1' r2 (h2.bnd.mono (fun z hz u H3 e3 r3 => ?_) fun _ z => (z.ex e1).ex e2)
  obtain ⟨k, h4, h5⟩ := bl_go r3.weak hz.bnd
  refine ⟨k, h4, ?_⟩
  have I3 := I2.ex e3
  have e13 := (e1.trans e2).trans e3
  cases k with
  | false => exact hP _ _ (h5 H3 e13)
  | true =>
    refine tW.go I3 (h5.bnd.mono (fun _ z => z) fun _ z => z.ex e13) fun d4 v4 H4 h6 e4 r4 => ?_
    refine ho' σ g H4 v2 v4 d2 d4 _ (I3.ex e4).kd ((r2.ex e3 I2.kd).ex e4 I3.kd) r4 (h6.bnd.mono (fun z hz u H5 e5 r5 => ?_) fun _ z => (z.ex e13).ex e4)
    obtain ⟨k, rfl, h8⟩ := bl_go r5.weak hz
    exact hP _ _ (h8 H5 ((e13.trans e4).trans e5))
theorem qt_chain {op op' : CmpOp} {r r' : R2} {o o' : Dat → Dat → Out Dat} (hr : OpR X (compareOp op) r) (hr' : OpR X (compareOp op') r') (ho : OpW cad X.K W o r) (ho' : OpW cad X.K W o' r') (ha : QW cad X W a fa) (hb : QW cad X W b fb) (hc : QW cad X W c fc) (hm : lastMarks [op, op'] [b, c] = false) :
    QTe cad X W (.Compare a [op, op'] [b, c] pos) (qChain o o' fa fb fc) :=
  PT.weak (pt_chain hr hr' ha hb hc hm) fun σ H Q h => chain_go ho ho' (fun k H' z => ⟨k, rfl, z⟩) h
theorem qe_chain {op op' : CmpOp} {r r' : R2} {o o' : Dat → Dat → Out Dat} (hr : OpR X (compareOp op) r) (hr' : OpR X (compareOp op') r') (ho : OpW cad X.K W o r) (ho' : OpW cad X.K W o' r') (ha : QW cad X W a fa) (hb : QW cad X W b fb) (hc : QW cad X W c fc) (hm : lastMarks [op, op'] [b, c] = false) :
    QE cad X W (.Compare a [op, op'] [b, c] pos) (qOf (qChain o o' fa fb fc)) :=
  PE.weak (pe_chain hr hr' ha hb hc hm) fun σ H Q ⟨g, ρ, M, I, h⟩ => chain_go (P := fun b H1 => Q (.bl b) H1) ho ho' (fun k H' z => z) ⟨g, ρ, M, I, h.bnd.mono (fun b h1 H' e' => h1 _ H' e' (.bl b)) fun _ z => z⟩
end

/-! ### items and slices -/
def ixD : Dat → Dat → Out Dat
  | .list ds, .int i => match atI ds i with
    | some d => .ok d
    | none => .bad
  | .tuple ds, .int i => match atI ds i with
    | some d => .ok d
    | none => .bad
  | .str z, .int i => Out.when (decide (z.length ≤ 100000)) (match atI z.cps.toList i with
    | some c => .ok (.str ⟨#[c]⟩)
    | none => .bad)
  | _, _ => .bad
theorem reps_at {K : PySem.W.Frag} {g : Gh} {H : Hp} {us : List V} {ds : List Dat} {i : Int} {d : Dat} (h : Reps K g H us ds) (e : atI ds i = some d) : ∃ v, atI us i = some v ∧ Rep K g H v d := by
  unfold atI at e ⊢
  rw [h.length]
  cases hj : ixN ds.length i with
  | none => rw [hj] at e; cases e
  | some j =>
    rw [hj] at e
    obtain ⟨v, h1, h2⟩ := h.get (i := j) e
    exact ⟨v, h1, h2⟩
def rIxU (K : PySem.W.Frag) : R2 := fun x y H Q => rIxL K x y H Q ∨ rIxT K x y H Q ∨ rIxS x y H Q
theorem ix_u {X : Cx} : IxR X (rIxU X.K) := fun value slice pins s σ H x y v u Q I rx ry h hs => by
  rcases h with h | h | h
  · exact ix_list value slice pins s σ H x y v u Q I rx ry h hs
  · exact ix_tup value slice pins s σ H x y v u Q I rx ry h hs
  · exact ix_str value slice pins s σ H x y v u Q I rx ry h hs
theorem ow_ix {K : PySem.W.Frag} {cad : Cad} {W : WX} : OpW cad K W ixD (rIxU K) := fun σ g H x y d e Q k rx ry h => by
  unfold ixD at h
  split at h
  · split at h
    · next z hz =>
      obtain ⟨p, us, rfl, h1, h2⟩ := wr_lst rx
      obtain ⟨v, h3, h4⟩ := reps_at h2 hz
      exact .inl ⟨p, us, _, v, rfl, wr_int ry, h1, h3, h v H (Ex.refl H) h4⟩
    · exact False.elim h
  · split at h
    · next z hz =>
      obtain ⟨p, us, rfl, h1, h2⟩ := wr_tup rx
      obtain ⟨v, h3, h4⟩ := reps_at h2 hz
      exact .inr (.inl ⟨p, us, _, v, rfl, wr_int ry, h1, h3, h v H (Ex.refl H) h4⟩)
    · exact False.elim h
  · obtain ⟨hl, h⟩ := h.whn
    split at h
    · next c hz => exact .inr (.inr ⟨_, _, c, wr_str rx, wr_int ry, sz_of (of_decide_eq_true hl), hz, h _ H (Ex.refl H) (.str _)⟩)
    · exact False.elim h
  · exact False.elim h
def cutD {α : Type} (xs : List α) (lo hi : Option Int) : List α := (xs.drop (HT.sIx xs.length 0 lo)).take (HT.sIx xs.length xs.length hi - HT.sIx xs.length 0 lo)
abbrev QO := Mo → Env → Out (Option Int)
def qoNone : QO := fun _ _ => .ok none
def intB : Dat → Out Int
  | .int i => .ok i
  | _ => .bad
def qoSome (a : QF) : QO := fun M ρ => (a M ρ).bind fun d => (intB d).bind fun i => .ok (some i)
def slD (d : Dat) (lo hi : Option Int) : Out Dat :=
  match d with
  | .list ds => .ok (.list (cutD ds lo hi))
  | .tuple ds => .ok (.tuple (cutD ds lo hi))
  | .str z => Out.when (decide (z.length ≤ 100000)) (.ok (.str (cutS z lo hi)))
  | _ => .bad
def qSl (a : QF) (lo hi : QO) : QF := fun M ρ => (a M ρ).bind fun d => (lo M ρ).bind fun l => (hi M ρ).bind fun h => slD d l h
def tQO (K : PySem.W.Frag) (cad : Cad) (W : WX) (f : QO) : TO := fun σ H Q => ∃ g ρ M, SInv K cad σ H g ρ M ∧ (f M ρ).sat (fun o => ∀ H', Ex H H' → Q o H') (exE K cad W g H σ)
def QOe (cad : Cad) (X : Cx) (W : WX) (e : Option Expr) (f : QO) : Prop := PO X e (tQO X.K cad W f)
def rSlU (K : PySem.W.Frag) : V → Option Int → Option Int → Hp → VK → Prop := fun x lo hi H Q => rSlL K x lo hi H Q ∨ rSlA K x lo hi H Q ∨ rSlS x lo hi H Q
theorem sl_u {X : Cx} : SlR X (rSlU X.K) := fun pins s σ H x v vl vu lo hi sl Q I rx hs pl pu h => by
  rcases h with h | h | h
  · exact sl_list pins s σ H x v vl vu lo hi sl Q I rx hs pl pu h
  · exact sl_tupA pins s σ H x v vl vu lo hi sl Q I rx hs pl pu h
  · exact sl_str pins s σ H x v vl vu lo hi sl Q I rx hs pl pu h
theorem sl_go {K : PySem.W.Frag} {g : Gh} {H : Hp} {x : V} {d : Dat} {lo hi : Option Int} {Q : VK} {E : Exn → Prop} (k : Kd g H) (rx : WRep K g H x d) (h : (slD d lo hi).sat (fun z => ∀ v H', Ex H H' → Rep K g H' v z → Q v H') E) : rSlU K x lo hi H Q := by
  unfold slD at h
  have hc : ∀ {us : List V} {ds : List Dat}, Reps K g H us ds → Reps K g H (cutV us lo hi) (cutD ds lo hi) := fun {us ds} t => by
    unfold cutV cutD
    rw [t.length]
    exact (t.drop _).take _
  split at h
  · obtain ⟨p, us, rfl, h1, h2⟩ := wr_lst rx
    exact .inl ⟨p, us, rfl, h1, fun q nq => h _ _ (Ex.new nq) (.lst (.inl ⟨.inl upd_same, k.fresh nq⟩) ((hc h2).ex (Ex.new nq) k))⟩
  · next ds =>
    obtain ⟨p, us, rfl, h1, h2⟩ := wr_tup rx
    refine .inr (.inl ⟨p, us, rfl, h1, fun z => ?_, fun _ q nq => h _ _ (Ex.new nq) (.tup (st_of upd_same) ((hc h2).ex (Ex.new nq) k))⟩)
    have e : cutD ds lo hi = ds := by
      unfold cutD
      rw [← h2.length, z.1, z.2, h2.length]
      simp
    rw [e] at h
    exact h _ H (Ex.refl H) (.tup h1 h2)
  · obtain ⟨hz, h⟩ := h.whn
    exact .inr (.inr ⟨_, wr_str rx, sz_of (of_decide_eq_true hz), h _ H (Ex.refl H) (.str _)⟩)
  · exact False.elim h
section
variable {X : Cx} {cad : Cad} {W : WX} {a b : Expr} {fa fb : QF} {pos p2 : Pos}
theorem qe_ix (ha : QW cad X W a fa) (hb : QW cad X W b fb) (hs : PlainIx b) : QE cad X W (.Subscript a b pos) (qOp ixD fa fb) :=
  PE.weak (pe_ix ix_u ha hb hs) fun σ H Q h => opw_go ow_ix σ H Q h
theorem PO.weak {X : Cx} {e : Option Expr} {t t' : TO} (h : PO X e t) (k : ∀ σ H Q, t' σ H Q → t σ H Q) : PO X e t' := ⟨fun pins s σ H Q I q => h.run pins s σ H Q I (k σ H Q q)⟩
theorem qo_none : QOe cad X W none qoNone := PO.weak po_none fun σ H Q ⟨g, ρ, M, I, h⟩ => h H (Ex.refl H)
theorem qo_some (ha : QW cad X W a fa) : QOe cad X W (some a) (qoSome fa) := PO.weak (po_some ha) fun σ H Q ⟨g, ρ, M, I, h⟩ => by
  refine tW.go I h.bnd fun d v H1 h1 e1 r1 => ?_
  have h1 := h1.bnd
  unfold intB at h1
  split at h1
  · exact ⟨_, wr_int r1, h1 H1 e1⟩
  · exact False.elim h1
theorem qe_sl {lo hi : Option Expr} {fl fh : QO} (ha : QW cad X W a fa) (hl : QOe cad X W lo fl) (hh : QOe cad X W hi fh) : QE cad X W (.Subscript a (.Slice lo hi none p2) pos) (qSl fa fl fh) :=
  PE.weak (pe_slice sl_u ha hl hh) fun σ H Q ⟨g, ρ, M, I, h⟩ => by
    refine tW.go I h.bnd fun d v H1 h1 e1 r1 => ?_
    have I1 := I.ex e1
    refine ⟨g, ρ, M, I1, h1.bnd.mono (fun l h2 H2 e2 => ?_) fun _ z => z.ex e1⟩
    have I2 := I1.ex e2
    refine ⟨g, ρ, M, I2, h2.bnd.mono (fun u h3 H3 e3 => ?_) fun _ z => (z.ex e1).ex e2⟩
    exact sl_go (I2.ex e3).kd ((r1.ex e2 I1.kd).ex e3 I2.kd) (h3.mono (fun z hz v' H' e' r' => hz v' H' (((e1.trans e2).trans e3).trans e') r') fun _ z => z)
end
end Rf
/-! # R4: calls of built-in functions and types -/
namespace Rf
open PySem PySem.Spec PyProof.Rows L2 Evl

def Fn1 (cad : Cad) (K : PySem.W.Frag) (W : WX) (o : Dat → Out Dat) (r : List V → Hp → VK → Prop) : Prop := ∀ (σ : L2.St) (g : Gh) (H : Hp) (x : V) (d : Dat) (Q : VK), Kd g H → WRep K g H x d →
  (o d).sat (fun z => ∀ v H', Ex H H' → Rep K g H' v z → Q v H') (exE K cad W g H σ) → r [x] H Q
def Fn2 (cad : Cad) (K : PySem.W.Frag) (W : WX) (o : Dat → Dat → Out Dat) (r : List V → Hp → VK → Prop) : Prop := ∀ (σ : L2.St) (g : Gh) (H : Hp) (x y : V) (d e : Dat) (Q : VK), Kd g H → WRep K g H x d → WRep K g H y e →
  (o d e).sat (fun z => ∀ v H', Ex H H' → Rep K g H' v z → Q v H') (exE K cad W g H σ) → r [x, y] H Q
/-- a value that is called: a built-in function or type -/
def BV (f : Value) (x : Str) : Prop := bootBuiltins x = some f ∧ x ≠ "__name__" ∧ (x == ("__debug__" : Str)) = false
def nst : Expr → Bool
  | .Starred _ _ => false
  | _ => true
section
variable {X : Cx} {cad : Cad} {W : WX} {a b c : Expr} {fa fb fc : QF} {pos p : Pos} {x : Str}
theorem star1 {env : PySem.Env} {a : Expr} (h : nst a = true) (es : List Expr) : starEach (a :: es) env = (false, eval a env) :: starEach es env := by
  cases a <;> first | rfl | cases h
theorem star_any {env : PySem.Env} {pos : Pos} : ∀ (es : List Expr), es.all nst = true → (backTo pos (starEach es env)).any (·.1) = false
  | [], _ => by with_unfolding_all rfl
  | a :: es, h => by
    rw [List.all_cons, Bool.and_eq_true] at h
    rw [star1 h.1]
    have ih := star_any (env := env) (pos := pos) es h.2
    unfold backTo at ih ⊢
    rw [List.map_cons, List.any_cons, ih]
    rfl
theorem qe_b1 {f : Value} {id : String} {r : List V → Hp → VK → Prop} {o : Dat → Out Dat} (hf : f = .builtin id ∨ f = .type id) (hc : CallR X f r) (ho : Fn1 cad X.K W o r) (hg : Gl X x) (hm : X.mg x = none) (hv : BV f x) (ha : QW cad X W a fa) (hs : nst a = true) : QE cad X W (.Call (.Name x p) [a] [] pos) (qUn o fa) := by
  have h1 := pa_cons ha pa_nil (star1 hs [])
  have key : PE X (.Call (.Name x p) [a] [] pos) (tCB r (tCons (tW X.K cad W fa) tNil)) := by
    rcases hf with rfl | rfl
    · exact pe_callB hc hg hm hv.1 h1 hv.2.1 hv.2.2 (star1 hs []) (by with_unfolding_all rfl)
    · exact pe_callTy hc hg hm hv.1 h1 hv.2.1 hv.2.2 (star1 hs []) (by with_unfolding_all rfl)
  refine PE.weak key fun σ H Q ⟨g, ρ, M, I, h⟩ => ?_
  refine tW.go I h.bnd fun d v H1 h1 e1 r1 => ?_
  exact ho σ g H1 v d Q (I.kd.ex e1) r1 (h1.mono (fun z hz u H' e' r' => hz u H' (e1.trans e') r') fun _ z => z.ex e1)
theorem qe_b2 {f : Value} {id : String} {r : List V → Hp → VK → Prop} {o : Dat → Dat → Out Dat} (hf : f = .builtin id ∨ f = .type id) (hc : CallR X f r) (ho : Fn2 cad X.K W o r) (hg : Gl X x) (hm : X.mg x = none) (hv : BV f x) (ha : QW cad X W a fa) (hb : QW cad X W b fb) (hs : nst a = true) (hs2 : nst b = true) : QE cad X W (.Call (.Name x p) [a, b] [] pos) (qOp o fa fb) := by
  have h1 := pa_cons ha (pa_cons hb pa_nil (star1 hs2 [])) (star1 hs [b])
  have key : PE X (.Call (.Name x p) [a, b] [] pos) (tCB r (tCons (tW X.K cad W fa) (tCons (tW X.K cad W fb) tNil))) := by
    rcases hf with rfl | rfl
    · exact pe_callB hc hg hm hv.1 h1 hv.2.1 hv.2.2 (star1 hs [b]) (star_any [b] (by simp [hs2]))
    · exact pe_callTy hc hg hm hv.1 h1 hv.2.1 hv.2.2 (star1 hs [b]) (star_any [b] (by simp [hs2]))
  refine PE.weak key fun σ H Q ⟨g, ρ, M, I, h⟩ => ?_
  refine tW.go I h.bnd fun d v H1 h1 e1 r1 => ?_
  have I1 := I.ex e1
  refine tW.go I1 (h1.bnd.mono (fun _ z => z) fun _ z => z.ex e1) fun d2 v2 H2 h2 e2 r2 => ?_
  exact ho σ g H2 v v2 d d2 Q (I1.ex e2).kd (r1.ex e2 I1.kd) r2 (h2.mono (fun z hz u H' e' r' => hz u H' ((e1.trans e2).trans e') r') fun _ z => (z.ex e1).ex e2)
end

/-! ### the functions -/
def lenD : Dat → Out Dat
  | .list ds => .ok (.int ds.length)
  | .tuple ds => .ok (.int ds.length)
  | .str x => Out.when (decide (x.length ≤ 100000)) (.ok (.int x.length))
  | _ => .bad
def absD : Dat → Out Dat
  | .int i => .ok (.int (if i < 0 then -i else i))
  | _ => .bad
def max2D : Dat → Dat → Out Dat
  | .int i, .int j => .ok (.int (if j > i then j else i))
  | _, _ => .bad
def min2D : Dat → Dat → Out Dat
  | .int i, .int j => .ok (.int (if j < i then j else i))
  | _, _ => .bad
/-- a list of ints, of bools -/
def intsOf : List Dat → Option (List Int)
  | [] => some []
  | .int i :: r => (intsOf r).map (i :: ·)
  | _ :: _ => none
def blsOf : List Dat → Option (List Bool)
  | [] => some []
  | .bool i :: r => (blsOf r).map (i :: ·)
  | _ :: _ => none
theorem intsOf_rep {K : PySem.W.Frag} {g : Gh} {H : Hp} : ∀ {us : List V} {ds : List Dat} {ns : List Int}, Reps K g H us ds → intsOf ds = some ns → us = ns.map V.int
  | _, _, ns, .nil, e => by cases e; rfl
  | _, _, ns, .cons (d := d) (ds := ds) h t, e => by
    cases d with
    | int i =>
      rw [intsOf] at e
      cases hr : intsOf ds with
      | none => rw [hr] at e; cases e
      | some r =>
        rw [hr] at e
        cases e
        cases h
        rw [intsOf_rep t hr]
        rfl
    | _ => cases e
theorem blsOf_rep {K : PySem.W.Frag} {g : Gh} {H : Hp} : ∀ {us : List V} {ds : List Dat} {ns : List Bool}, Reps K g H us ds → blsOf ds = some ns → us = ns.map V.bl
  | _, _, ns, .nil, e => by cases e; rfl
  | _, _, ns, .cons (d := d) (ds := ds) h t, e => by
    cases d with
    | bool i =>
      rw [blsOf] at e
      cases hr : blsOf ds with
      | none => rw [hr] at e; cases e
      | some r =>
        rw [hr] at e
        cases e
        cases h
        rw [blsOf_rep t hr]
        rfl
    | _ => cases e
@[simp] theorem intsOf_map (ns : List Int) : intsOf (ns.map PyData.int) = some ns := by
  induction ns with
  | nil => rfl
  | cons n ns ih => rw [List.map_cons, intsOf, ih]; rfl
@[simp] theorem blsOf_map (ns : List Bool) : blsOf (ns.map PyData.bool) = some ns := by
  induction ns with
  | nil => rfl
  | cons n ns ih => rw [List.map_cons, blsOf, ih]; rfl
def sumD : Dat → Out Dat
  | .list ds => match intsOf ds with
    | some ns => .ok (.int ns.sum)
    | none => .bad
  | _ => .bad
def maxI : Int → List Int → Int
  | m, [] => m
  | m, n :: ns => maxI (if n > m then n else m) ns
theorem maxI_spec : ∀ (ns : List Int) (m : Int), (maxI m ns ∈ m :: ns) ∧ ∀ y ∈ m :: ns, y ≤ maxI m ns
  | [], m => ⟨by simp [maxI], fun y h => by simp at h; subst h; exact Int.le_refl _⟩
  | n :: ns, m => by
    obtain ⟨h1, h2⟩ := maxI_spec ns (if n > m then n else m)
    have hm : m ≤ (if n > m then n else m) := by split <;> omega
    have hn : n ≤ (if n > m then n else m) := by split <;> omega
    have h3 := h2 _ List.mem_cons_self
    refine ⟨?_, fun y hy => ?_⟩
    · show maxI (if n > m then n else m) ns ∈ _
      rcases List.mem_cons.mp h1 with e | e
      · rw [e]
        split
        · exact List.mem_cons_of_mem _ List.mem_cons_self
        · exact List.mem_cons_self
      · exact List.mem_cons_of_mem _ (List.mem_cons_of_mem _ e)
    · show y ≤ maxI (if n > m then n else m) ns
      rcases List.mem_cons.mp hy with e | hy
      · omega
      · rcases List.mem_cons.mp hy with e | hy
        · omega
        · exact h2 y (List.mem_cons_of_mem _ hy)
def maxD : Dat → Out Dat
  | .list ds => match intsOf ds with
    | some (n :: ns) => .ok (.int (maxI n ns))
    | _ => .bad
  | _ => .bad
def allD : Dat → Out Dat
  | .list ds => match blsOf ds with
    | some bs => .ok (.bool (bs.all id))
    | none => .bad
  | _ => .bad
def anyD : Dat → Out Dat
  | .list ds => match blsOf ds with
    | some bs => .ok (.bool (bs.any id))
    | none => .bad
  | _ => .bad
def tupleD : Dat → Out Dat
  | .list ds => .ok (.tuple ds)
  | .tuple ds => .ok (.tuple ds)
  | _ => .bad
def listD : Dat → Out Dat
  | .list ds => .ok (.list ds)
  | .tuple ds => .ok (.list ds)
  | _ => .bad
def intD : Dat → Out Dat
  | .int i => .ok (.int i)
  | .bool k => .ok (.int (if k then 1 else 0))
  | .str x => Out.when (decide (x.length ≤ 640)) (match PySem.intText? x with
    | some n => .ok (.int n)
    | none => .bad)
  | _ => .bad
def strD : Dat → Out Dat
  | .int i => Out.when (decide (i.natAbs.log2 < 1920)) (.ok (.str (toString i)))
  | _ => .bad
def rLenU (K : PySem.W.Frag) : List V → Hp → VK → Prop := fun xs H Q => (∃ p ys, xs = [.ref p] ∧ (SqL K H p ys ∨ SqT K H p ys) ∧ Q (.int ys.length) H) ∨ ∃ z, xs = [.str z] ∧ z.length ≤ sizeLine ∧ Q (.int z.length) H
theorem cl_len {X : Cx} : CallR X (.builtin "len") (rLenU X.K) := fun pins s σ H xs us Q I r h => h.elim (fun h => call_len_seq pins s σ H xs us Q I r h) fun h => call_len_str pins s σ H xs us Q I r h
def rIntU : List V → Hp → VK → Prop := fun xs H Q => ((∃ i, xs = [.int i] ∧ Q (.int i) H) ∨ ∃ k, xs = [.bl k] ∧ Q (.int (if k then 1 else 0)) H) ∨ ∃ a n, xs = [.str a] ∧ PySem.intText? a = some n ∧ a.length ≤ 640 ∧ Q (.int n) H
theorem cl_int {X : Cx} : CallR X (.type "int") rIntU := fun pins s σ H xs us Q I r h => h.elim (fun h => call_int1 pins s σ H xs us Q I r h) fun h => call_int_str pins s σ H xs us Q I r h
section
variable {K : PySem.W.Frag} {cad : Cad} {W : WX}
theorem fn_len : Fn1 cad K W lenD (rLenU K) := fun σ g H x d Q k rx h => by
  unfold lenD at h
  split at h
  · obtain ⟨p, us, rfl, h1, h2⟩ := wr_lst rx
    rw [← h2.length] at h
    exact .inl ⟨p, us, rfl, .inl h1, h _ H (Ex.refl H) (.int _)⟩
  · obtain ⟨p, us, rfl, h1, h2⟩ := wr_tup rx
    rw [← h2.length] at h
    exact .inl ⟨p, us, rfl, .inr h1, h _ H (Ex.refl H) (.int _)⟩
  · obtain ⟨hz, h⟩ := h.whn
    cases wr_str rx
    exact .inr ⟨_, rfl, sz_of (of_decide_eq_true hz), h _ H (Ex.refl H) (.int _)⟩
  · exact False.elim h
theorem fn_abs : Fn1 cad K W absD (fun xs H Q => ∃ i, xs = [.int i] ∧ Q (.int (if i < 0 then -i else i)) H) := fun σ g H x d Q k rx h => by
  unfold absD at h
  split at h
  · cases wr_int rx
    exact ⟨_, rfl, h _ H (Ex.refl H) (.int _)⟩
  · exact False.elim h
theorem fn_max2 : Fn2 cad K W max2D (fun xs H Q => ∃ i j, xs = [.int i, .int j] ∧ Q (.int (if j > i then j else i)) H) := fun σ g H x y d e Q k rx ry h => by
  unfold max2D at h
  split at h
  · cases wr_int rx; cases wr_int ry
    exact ⟨_, _, rfl, h _ H (Ex.refl H) (.int _)⟩
  · exact False.elim h
theorem fn_min2 : Fn2 cad K W min2D (fun xs H Q => ∃ i j, xs = [.int i, .int j] ∧ Q (.int (if j < i then j else i)) H) := fun σ g H x y d e Q k rx ry h => by
  unfold min2D at h
  split at h
  · cases wr_int rx; cases wr_int ry
    exact ⟨_, _, rfl, h _ H (Ex.refl H) (.int _)⟩
  · exact False.elim h
theorem fn_sum : Fn1 cad K W sumD (rSum K) := fun σ g H x d Q k rx h => by
  unfold sumD at h
  split at h
  · split at h
    · next ns e =>
      obtain ⟨p, us, rfl, h1, h2⟩ := wr_lst rx
      have := intsOf_rep h2 e
      subst this
      exact ⟨p, ns, rfl, h1, h _ H (Ex.refl H) (.int _)⟩
    · exact False.elim h
  · exact False.elim h
theorem fn_max : Fn1 cad K W maxD (rMax K) := fun σ g H x d Q k rx h => by
  unfold maxD at h
  split at h
  · split at h
    · next n ns e =>
      obtain ⟨p, us, rfl, h1, h2⟩ := wr_lst rx
      have := intsOf_rep h2 e
      subst this
      obtain ⟨m1, m2⟩ := maxI_spec ns n
      refine ⟨p, n :: ns, rfl, h1, by simp, fun m hm hy => ?_⟩
      have e2 : m = maxI n ns := Int.le_antisymm (m2 m hm) (hy _ m1)
      rw [e2]
      exact h _ H (Ex.refl H) (.int _)
    · exact False.elim h
  · exact False.elim h
theorem fn_all : Fn1 cad K W allD (rAll K) := fun σ g H x d Q k rx h => by
  unfold allD at h
  split at h
  · split at h
    · next ns e =>
      obtain ⟨p, us, rfl, h1, h2⟩ := wr_lst rx
      have := blsOf_rep h2 e
      subst this
      exact ⟨p, ns, rfl, h1, h _ H (Ex.refl H) (.bl _)⟩
    · exact False.elim h
  · exact False.elim h
theorem fn_any : Fn1 cad K W anyD (rAny K) := fun σ g H x d Q k rx h => by
  unfold anyD at h
  split at h
  · split at h
    · next ns e =>
      obtain ⟨p, us, rfl, h1, h2⟩ := wr_lst rx
      have := blsOf_rep h2 e
      subst this
      exact ⟨p, ns, rfl, h1, h _ H (Ex.refl H) (.bl _)⟩
    · exact False.elim h
  · exact False.elim h
theorem fn_tuple : Fn1 cad K W tupleD (fun xs H Q => ∃ p ys, xs = [.ref p] ∧ ((SqL K H p ys ∧ ∀ l, H l = none → Q (.ref l) (upd H l (.tup ys))) ∨ (SqT K H p ys ∧ Q (.ref p) H))) := fun σ g H x d Q k rx h => by
  unfold tupleD at h
  split at h
  · obtain ⟨p, us, rfl, h1, h2⟩ := wr_lst rx
    exact ⟨p, us, rfl, .inl ⟨h1, fun l nl => h _ _ (Ex.new nl) (.tup (st_of upd_same) (h2.ex (Ex.new nl) k))⟩⟩
  · obtain ⟨p, us, rfl, h1, h2⟩ := wr_tup rx
    exact ⟨p, us, rfl, .inr ⟨h1, h _ H (Ex.refl H) (.tup h1 h2)⟩⟩
  · exact False.elim h
theorem fn_list : Fn1 cad K W listD (fun xs H Q => ∃ p ys, xs = [.ref p] ∧ (SqL K H p ys ∨ SqT K H p ys) ∧ ∀ l, H l = none → Q (.ref l) (upd H l (.lst ys))) := fun σ g H x d Q k rx h => by
  unfold listD at h
  split at h
  · obtain ⟨p, us, rfl, h1, h2⟩ := wr_lst rx
    exact ⟨p, us, rfl, .inl h1, fun l nl => h _ _ (Ex.new nl) (.lst (.inl ⟨.inl upd_same, k.fresh nl⟩) (h2.ex (Ex.new nl) k))⟩
  · obtain ⟨p, us, rfl, h1, h2⟩ := wr_tup rx
    exact ⟨p, us, rfl, .inr h1, fun l nl => h _ _ (Ex.new nl) (.lst (.inl ⟨.inl upd_same, k.fresh nl⟩) (h2.ex (Ex.new nl) k))⟩
  · exact False.elim h
theorem fn_int : Fn1 cad K W intD rIntU := fun σ g H x d Q k rx h => by
  unfold intD at h
  split at h
  · cases wr_int rx
    exact .inl (.inl ⟨_, rfl, h _ H (Ex.refl H) (.int _)⟩)
  · cases wr_bl rx
    exact .inl (.inr ⟨_, rfl, h _ H (Ex.refl H) (.int _)⟩)
  · obtain ⟨hz, h⟩ := h.whn
    split at h
    · next n e =>
      cases wr_str rx
      exact .inr ⟨_, n, rfl, e, of_decide_eq_true hz, h _ H (Ex.refl H) (.int _)⟩
    · exact False.elim h
  · exact False.elim h
theorem fn_str : Fn1 cad K W strD (fun xs H Q => ∃ i, xs = [.int i] ∧ i.natAbs.log2 < 1920 ∧ Q (.str (toString i)) H) := fun σ g H x d Q k rx h => by
  unfold strD at h
  split at h
  · obtain ⟨hz, h⟩ := h.whn
    cases wr_int rx
    exact ⟨_, rfl, of_decide_eq_true hz, h _ H (Ex.refl H) (.str _)⟩
  · exact False.elim h
end

/-! ### isinstance -/
inductive TyN where
  | int | bool | str | tuple | list
def TyN.name : TyN → String
  | .int => "int"
  | .bool => "bool"
  | .str => "str"
  | .tuple => "tuple"
  | .list => "list"
def isiB (t : TyN) : Dat → Option Bool
  | .none => some false
  | .int _ => some (match t with
    | .int => true
    | _ => false)
  | .bool _ => some (match t with
    | .int => true
    | .bool => true
    | _ => false)
  | .str _ => some (match t with
    | .str => true
    | _ => false)
  | .tuple _ => some (match t with
    | .tuple => true
    | _ => false)
  | .list _ => some (match t with
    | .list => true
    | _ => false)
  | .dict _ => none
def isiD (t : TyN) (d : Dat) : Out Dat := match isiB t d with
  | some b => .ok (.bool b)
  | none => .bad
def dtyN : Dat → String
  | .none => "NoneType"
  | .int _ => "int"
  | .bool _ => "bool"
  | .str _ => "str"
  | .tuple _ => "tuple"
  | .list _ => "list"
  | .dict _ => "dict"
theorem sqL_ty {K : PySem.W.Frag} {H : Hp} {a : Addr} {xs : List V} (h : SqL K H a xs) : TyX K H (.ref a) (.type "list") := by
  rcases h with (h | ⟨o, h⟩) | ⟨o, its, n, h1, h2, _⟩
  · exact .base (.lst h)
  · exact .base (.frz h)
  · exact .kList h1 h2
theorem sqT_ty {K : PySem.W.Frag} {H : Hp} {a : Addr} {xs : List V} (h : SqT K H a xs) : TyX K H (.ref a) (.type "tuple") := by
  rcases h with (h | ⟨o, h⟩) | ⟨o, its, n, h1, h2, _⟩
  · exact .base (.tup h)
  · exact .fTuple h
  · exact .kTuple h1 h2
theorem wr_ty {K : PySem.W.Frag} {g : Gh} {H : Hp} {x : V} {d : Dat} (h : WRep K g H x d) (hd : ∀ kv, d ≠ .dict kv) : TyX K H x (.type (dtyN d)) := by
  cases d with
  | none => cases wr_non h; exact .base .non
  | bool b => cases wr_bl h; exact .base (.bl _)
  | int b => cases wr_int h; exact .base (.int _)
  | str b => cases wr_str h; exact .base (.str _)
  | list b => obtain ⟨a, us, rfl, h1, _⟩ := wr_lst h; exact sqL_ty h1
  | tuple b => obtain ⟨a, us, rfl, h1, _⟩ := wr_tup h; exact sqT_ty h1
  | dict kv => exact absurd rfl (hd kv)
theorem kit_int_int {K : PySem.W.Frag} : PySem.W.kitOne K (.type "int") (.type "int") = some true := kit_ty (by decide +kernel)
theorem kit_int_bool {K : PySem.W.Frag} : PySem.W.kitOne K (.type "int") (.type "bool") = some false := kit_ty (by decide +kernel)
theorem kit_int_str {K : PySem.W.Frag} : PySem.W.kitOne K (.type "int") (.type "str") = some false := kit_ty (by decide +kernel)
theorem kit_int_tuple {K : PySem.W.Frag} : PySem.W.kitOne K (.type "int") (.type "tuple") = some false := kit_ty (by decide +kernel)
theorem kit_int_list {K : PySem.W.Frag} : PySem.W.kitOne K (.type "int") (.type "list") = some false := kit_ty (by decide +kernel)
theorem kit_bool_int {K : PySem.W.Frag} : PySem.W.kitOne K (.type "bool") (.type "int") = some true := kit_ty (by decide +kernel)
theorem kit_bool_bool {K : PySem.W.Frag} : PySem.W.kitOne K (.type "bool") (.type "bool") = some true := kit_ty (by decide +kernel)
theorem kit_bool_str {K : PySem.W.Frag} : PySem.W.kitOne K (.type "bool") (.type "str") = some false := kit_ty (by decide +kernel)
theorem kit_bool_tuple {K : PySem.W.Frag} : PySem.W.kitOne K (.type "bool") (.type "tuple") = some false := kit_ty (by decide +kernel)
theorem kit_bool_list {K : PySem.W.Frag} : PySem.W.kitOne K (.type "bool") (.type "list") = some false := kit_ty (by decide +kernel)
theorem kit_str_int {K : PySem.W.Frag} : PySem.W.kitOne K (.type "str") (.type "int") = some false := kit_ty (by decide +kernel)
theorem kit_str_bool {K : PySem.W.Frag} : PySem.W.kitOne K (.type "str") (.type "bool") = some false := kit_ty (by decide +kernel)
theorem kit_str_str {K : PySem.W.Frag} : PySem.W.kitOne K (.type "str") (.type "str") = some true := kit_ty (by decide +kernel)
theorem kit_str_tuple {K : PySem.W.Frag} : PySem.W.kitOne K (.type "str") (.type "tuple") = some false := kit_ty (by decide +kernel)
theorem kit_str_list {K : PySem.W.Frag} : PySem.W.kitOne K (.type "str") (.type "list") = some false := kit_ty (by decide +kernel)
theorem kit_tuple_int {K : PySem.W.Frag} : PySem.W.kitOne K (.type "tuple") (.type "int") = some false := kit_ty (by decide +kernel)
theorem kit_tuple_bool {K : PySem.W.Frag} : PySem.W.kitOne K (.type "tuple") (.type "bool") = some false := kit_ty (by decide +kernel)
theorem kit_tuple_str {K : PySem.W.Frag} : PySem.W.kitOne K (.type "tuple") (.type "str") = some false := kit_ty (by decide +kernel)
theorem kit_tuple_tuple {K : PySem.W.Frag} : PySem.W.kitOne K (.type "tuple") (.type "tuple") = some true := kit_ty (by decide +kernel)
theorem kit_tuple_list {K : PySem.W.Frag} : PySem.W.kitOne K (.type "tuple") (.type "list") = some false := kit_ty (by decide +kernel)
theorem kit_list_int {K : PySem.W.Frag} : PySem.W.kitOne K (.type "list") (.type "int") = some false := kit_ty (by decide +kernel)
theorem kit_list_bool {K : PySem.W.Frag} : PySem.W.kitOne K (.type "list") (.type "bool") = some false := kit_ty (by decide +kernel)
theorem kit_list_str {K : PySem.W.Frag} : PySem.W.kitOne K (.type "list") (.type "str") = some false := kit_ty (by decide +kernel)
theorem kit_list_tuple {K : PySem.W.Frag} : PySem.W.kitOne K (.type "list") (.type "tuple") = some false := kit_ty (by decide +kernel)
theorem kit_list_list {K : PySem.W.Frag} : PySem.W.kitOne K (.type "list") (.type "list") = some true := kit_ty (by decide +kernel)
theorem kit_NoneType_int {K : PySem.W.Frag} : PySem.W.kitOne K (.type "NoneType") (.type "int") = some false := kit_ty (by decide +kernel)
theorem kit_NoneType_bool {K : PySem.W.Frag} : PySem.W.kitOne K (.type "NoneType") (.type "bool") = some false := kit_ty (by decide +kernel)
theorem kit_NoneType_str {K : PySem.W.Frag} : PySem.W.kitOne K (.type "NoneType") (.type "str") = some false := kit_ty (by decide +kernel)
theorem kit_NoneType_tuple {K : PySem.W.Frag} : PySem.W.kitOne K (.type "NoneType") (.type "tuple") = some false := kit_ty (by decide +kernel)
theorem kit_NoneType_list {K : PySem.W.Frag} : PySem.W.kitOne K (.type "NoneType") (.type "list") = some false := kit_ty (by decide +kernel)
theorem isi_kit {K : PySem.W.Frag} {t : TyN} {d : Dat} {b : Bool} (h : isiB t d = some b) : PySem.W.kitOne K (.type (dtyN d)) (.type t.name) = some b ∧ ∀ kv, d ≠ .dict kv := by
  cases d with
  | dict kv => cases h
  | none =>
    refine ⟨?_, fun _ z => nomatch z⟩
    cases t <;> cases h
    · exact kit_NoneType_int
    · exact kit_NoneType_bool
    · exact kit_NoneType_str
    · exact kit_NoneType_tuple
    · exact kit_NoneType_list
  | bool x =>
    refine ⟨?_, fun _ z => nomatch z⟩
    cases t <;> cases h
    · exact kit_bool_int
    · exact kit_bool_bool
    · exact kit_bool_str
    · exact kit_bool_tuple
    · exact kit_bool_list
  | int x =>
    refine ⟨?_, fun _ z => nomatch z⟩
    cases t <;> cases h
    · exact kit_int_int
    · exact kit_int_bool
    · exact kit_int_str
    · exact kit_int_tuple
    · exact kit_int_list
  | str x =>
    refine ⟨?_, fun _ z => nomatch z⟩
    cases t <;> cases h
    · exact kit_str_int
    · exact kit_str_bool
    · exact kit_str_str
    · exact kit_str_tuple
    · exact kit_str_list
  | list x =>
    refine ⟨?_, fun _ z => nomatch z⟩
    cases t <;> cases h
    · exact kit_list_int
    · exact kit_list_bool
    · exact kit_list_str
    · exact kit_list_tuple
    · exact kit_list_list
  | tuple x =>
    refine ⟨?_, fun _ z => nomatch z⟩
    cases t <;> cases h
    · exact kit_tuple_int
    · exact kit_tuple_bool
    · exact kit_tuple_str
    · exact kit_tuple_tuple
    · exact kit_tuple_list
def qIsi (t : TyN) (a : QF) : QF := qUn (isiD t) a
section
variable {X : Cx} {cad : Cad} {W : WX} {a b : Expr} {fa : QF} {pos p p2 : Pos} {x y : Str}
theorem qe_isi {t : TyN} (hg : Gl X x) (hm : X.mg x = none) (hv : BV (.builtin "isinstance") x) (hg2 : Gl X y) (hm2 : X.mg y = none) (hv2 : BV (.type t.name) y) (ha : QW cad X W a fa) (hs : nst a = true) : QE cad X W (.Call (.Name x p) [a, .Name y p2] [] pos) (qIsi t fa) := by
  have hb : PE X (.Name y p2) (tC (.ty t.name)) := pe_bltn hg2 hm2 hv2.1 rfl hv2.2.1 hv2.2.2
  have h1 := pa_cons ha (pa_cons hb pa_nil (star1 (a := .Name y p2) rfl [])) (star1 hs [.Name y p2])
  have key := pe_callB (pos := pos) (p := p) call_isi hg hm hv.1 h1 hv.2.1 hv.2.2 (star1 hs [.Name y p2]) (star_any [.Name y p2] rfl)
  refine PE.weak key fun σ H Q ⟨g, ρ, M, I, h⟩ => ?_
  refine tW.go I h.bnd fun d v H1 h1 e1 r1 => ?_
  unfold isiD at h1
  split at h1
  · next bb e =>
    obtain ⟨k1, k2⟩ := isi_kit (K := X.K) e
    exact ⟨v, _, _, _, bb, rfl, .ty _, wr_ty r1 k2, k1, h1 _ H1 e1 (.bl _)⟩
  · exact False.elim h1
end
end Rf
/-! # R5: enumerate and zip over lists, tuples and texts -/
namespace Rf
open PySem PySem.Spec PyProof.Rows L2 Evl

inductive Src where
  | lst (a : Addr) | tup (a : Addr) | str (x : Str)
def chars (x : Str) : List V := x.cps.toList.map fun c => V.str ⟨#[c]⟩
def Src.sq (K : PySem.W.Frag) (H : Hp) (us : List V) : Src → Prop
  | .lst a => SqL K H a us
  | .tup a => SqT K H a us
  | .str x => us = chars x
def Src.it (h : Heap) (i : Addr) (n : Nat) : Src → Prop
  | .lst a => h.IsListIter i a n
  | .tup a => h.IsTupleIter i a n
  | .str x => ∃ t, h.IsStrIter i (strIterType x) x t n
def Src.ad : Src → List Addr
  | .lst a => [a]
  | .tup a => [a]
  | .str _ => []
section
variable {X : Cx} {pins : List (Addr × Obj)} {σ : L2.St} {H : Hp} {s : Shared}
theorem Src.inj {S : Src} {us ws : List V} (I : L2.Inv X pins σ H s) (h : S.sq X.K H us) (h' : S.sq X.K H ws) : us = ws := by
  cases S with
  | lst a => exact I.list_inj h h'
  | tup a => exact I.tuple_inj h h'
  | str x => exact Eq.trans h (Eq.symm h')
theorem Src.draws {S : Src} {us : List V} {i : Addr} {n : Nat} (I : L2.Inv X pins σ H s) (hA : X.A.handled = none) (hs : S.sq X.K H us) (hi : S.it s.heap i n) (hne : ∀ a ∈ S.ad, a ≠ i) :
    ∃ (P : Nat → Value → Prop) (St : Nat → Heap → Prop), Draws X.prog X.w X.A.in1 i (i :: S.ad) us.length P St ∧ St n s.heap ∧ (∀ m h, St m h → S.it h i m) ∧ ∀ (m : Nat) (v : Value) (x : V), P m v → us[m]? = some x → RelV x v := by
  cases S with
  | lst a =>
    obtain ⟨its, rv, p, hz⟩ := I.list hs
    have hl := rv.length
    have D := Draws.list (prog := X.prog) (w := X.w) (A := X.A.in1) hA i a (hne a (by simp [Src.ad])) its.toArray
    rw [List.size_toArray, ← hl] at D
    refine ⟨_, _, D, ⟨hi, p.isList⟩, fun m h z => z.1, fun m v x hv hx => ?_⟩
    obtain ⟨u, hu, ru⟩ := rv.get hx
    have : v = u := Option.some.inj (hv.symm.trans (by simpa using hu))
    rw [this]
    exact ru
  | tup a =>
    obtain ⟨its, rv, p, hz⟩ := I.tuple hs
    have hl := rv.length
    have D := Draws.tuple (prog := X.prog) (w := X.w) (A := X.A.in1) hA i a (hne a (by simp [Src.ad])) its.toArray
    rw [List.size_toArray, ← hl] at D
    refine ⟨_, _, D, ⟨hi, p⟩, fun m h z => z.1, fun m v x hv hx => ?_⟩
    obtain ⟨u, hu, ru⟩ := rv.get hx
    have : v = u := Option.some.inj (hv.symm.trans (by simpa using hu))
    rw [this]
    exact ru
  | str x =>
    obtain ⟨t, hi⟩ := hi
    have hl : us.length = x.cps.size := by
      rw [show us = chars x from hs]
      unfold chars
      rw [List.length_map, Array.length_toList]
    have D := Draws.text (prog := X.prog) (w := X.w) (A := X.A.in1) hA i x t
    rw [← hl] at D
    refine ⟨_, _, D, hi, fun m h z => ⟨t, z⟩, fun m v y hv hy => ?_⟩
    obtain ⟨c, u, hc, rfl⟩ := hv
    rw [show us = chars x from hs] at hy
    unfold chars at hy
    rw [List.getElem?_map, Array.getElem?_toList, hc] at hy
    cases hy
    exact ⟨u, rfl⟩
theorem Src.it_ob {S : Src} {h : Heap} {i : Addr} {n : Nat} (hi : S.it h i n) : ∃ o, h.get? i = some o ∧ ∀ v, o.data ≠ .cell v := by
  cases S with
  | lst a => obtain ⟨o, e, _, d⟩ := hi; exact ⟨o, e, fun v q => by rw [d] at q; cases q⟩
  | tup a => obtain ⟨o, e, _, d⟩ := hi; exact ⟨o, e, fun v q => by rw [d] at q; cases q⟩
  | str x => obtain ⟨t, o, e, _, d⟩ := hi; exact ⟨o, e, fun v q => by rw [d] at q; cases q⟩
theorem Src.it_at {S : Src} {h h' : Heap} {i : Addr} {n : Nat} (hi : S.it h i n) (k : ∀ o, h.get? i = some o → h'.get? i = some o) : S.it h' i n := by
  cases S with
  | lst a => exact hi.at k
  | tup a => exact hi.at k
  | str x => obtain ⟨t, o, e, r⟩ := hi; exact ⟨t, o, k o e, r⟩
end
/-! ### enumerate -/
def ItE (K : PySem.W.Frag) (S : Src) (k₀ : Int) : It :=
  ⟨fun i H => ∃ (us : List V) (x : V), S.sq K H us ∧ us[i]? = some x, fun i H v H' => ∃ T x, v = .ref T ∧ H T = none ∧ H' = upd H T (.tup [.int (k₀ + (i : Int)), x]) ∧ ∀ us, S.sq K H us → us[i]? = some x, fun i H => ∃ us : List V, S.sq K H us ∧ us.length = i⟩
theorem turnE {P : Program} {w : World} {K : PySem.W.Frag} {elts : List Expr} {kk : Nat} {tpos : Pos} (S : Src) (e i0 : Addr) (k₀ : Int) (hne : e ≠ i0) (ha : ∀ a ∈ S.ad, e ≠ a ∧ a ≠ i0) :
    Turn P w K (.Tuple elts kk tpos) (ItE K S k₀) [e, i0] e (fun i h => (∃ old, IsEnum h e i0 (k₀ + (i : Int)) old) ∧ S.it h i0 i) where
  mem := by simp
  obj := fun i h st b hb => by
    obtain ⟨⟨old, he⟩, hi⟩ := st
    have e' : b = e ∨ b = i0 := by simpa using hb
    rcases e' with z | z
    · rw [z]; exact ⟨_, he, fun v q => nomatch q⟩
    · rw [z]; exact Src.it_ob hi
  keep := fun i h h' st k => let ⟨⟨old, he⟩, hi⟩ := st; ⟨⟨old, k e (by simp) _ he⟩, Src.it_at hi fun o q => k i0 (by simp) o q⟩
  item := by
    intro X hP hw hK hc i pins s σ H E I hf st hg
    subst hP hw hK
    obtain ⟨⟨old, he⟩, hit⟩ := st
    obtain ⟨us, x, hq, hx⟩ := hg
    obtain ⟨PP, St, D, st0, stI, rel⟩ := Src.draws I (I.ok.hd hc) hq hit fun a z => (ha a z).2
    have hel : e < s.heap.objs.size := Heap.lt_size he
    have hil : i0 < s.heap.objs.size := by obtain ⟨_, q, _⟩ := Src.it_ob hit; exact Heap.lt_size q
    have hin : i < us.length := (List.getElem?_eq_some_iff.mp hx).1
    refine wpAny_pyNext_enum_itemC D he st0 hin hne (fun z => ?_) fun v h' tk hP ho hst' hT hsz hk => ?_
    · rcases List.mem_cons.mp z with z | z
      · exact hne z
      · exact (ha e z).1 rfl
    have ru := rel i v x hP hx
    refine ⟨_, rfl, wpAny_letOwnedTupleGo_enum (s := { s with heap := h', toks := tk + 1 }) ho fun h'' he' sb => ?_⟩
    have hT2 : h''.get? s.heap.objs.size = some { cls := .type "tuple", data := .seq #[.int (k₀ + (i : Int)) tk, v] } := (sb.2 _ (Nat.ne_of_gt hel)).trans hT
    have new : ObjOk X.prog X.w (upd H s.heap.objs.size (.tup [.int (k₀ + (i : Int)), x])) h'' s.heap.objs.size (.tup [.int (k₀ + (i : Int)), x]) :=
      ⟨by show 2 ≤ sizeLine; decide, [.int (k₀ + (i : Int)) tk, v], .cons ⟨_, rfl⟩ (.cons ru .nil), ⟨_, hT2, rfl, _, rfl⟩⟩
    have I1 : L2.Inv X pins σ (upd H s.heap.objs.size (.tup [.int (k₀ + (i : Int)), x])) { s with heap := h'', toks := tk + 1 } :=
      I.turnedNew (ch := [e, i0]) (fun b ob hb q => (sb.2 b (fun z => hb (by simp [z]))).trans (hk b ob (fun z => hb (by simp [z])) (fun z => hb (by simp [z])) q)) hf (Nat.le_refl _) new
    refine ⟨.ref s.heap.objs.size, _, I1, rfl, ⟨_, x, rfl, I.hok.fresh (Nat.le_refl _), rfl, fun ys hy => by rw [Src.inj I hy hq]; exact hx⟩, ⟨⟨v, ?_⟩, Src.it_at (stI _ _ hst') fun o q => (sb.2 i0 (Ne.symm hne)).trans q⟩, fun b hb => ?_⟩
    · have e1 : k₀ + ((i + 1 : Nat) : Int) = k₀ + (i : Int) + 1 := by omega
      rw [e1]; exact he'
    · have hb' : b < s.heap.objs.size := by
        have e' : b = e ∨ b = i0 := by simpa using hb
        rcases e' with z | z
        · rw [z]; exact hel
        · rw [z]; exact hil
      rw [upd_ne (Nat.ne_of_lt hb')]
      exact (hf b hb).1
  done := by
    intro X hP hw hK hc i pins s σ H E I hf st hg
    subst hP hw hK
    obtain ⟨⟨old, he⟩, hit⟩ := st
    obtain ⟨us, hq, hx⟩ := hg
    obtain ⟨PP, St, D, st0, stI, rel⟩ := Src.draws I (I.ok.hd hc) hq hit fun a z => (ha a z).2
    obtain ⟨f0, f1, f2, f3, f4, f5⟩ := hf i0 (by simp)
    rw [← hx] at st0
    exact wpAny_pyNext_enum_endD D he st0 fun h' eb => ⟨rfl, I.turned (t' := s.toks) (fun b o hb q => eb b o hb q) f0 f1 f3 f4 f5⟩
  self := fun A i s Q E st h => let ⟨⟨_, he⟩, _⟩ := st; wpAny_pyIter_enum he h
theorem Src.begins {X : Cx} {pins : List (Addr × Obj)} {σ : L2.St} {H : Hp} {s : Shared} {S : Src} {us : List V} {x : V} {v : Value} (I : L2.Inv X pins σ H s) (hs : S.sq X.K H us) (hx : (∃ a, x = .ref a ∧ S.ad = [a] ∧ (S = .lst a ∨ S = .tup a)) ∨ ∃ y, S = .str y ∧ x = .str y) (r : RelV x v) :
    ∃ (o : Obj) (B : Heap → Prop), Begins v o B ∧ B s.heap ∧ (∀ h i, h.get? i = some o → S.it h i 0) ∧ ∀ a ∈ S.ad, a < s.heap.objs.size := by
  rcases hx with ⟨a, rfl, ha, h | h⟩ | ⟨y, h, rfl⟩
  · subst h
    cases r
    obtain ⟨its, rv, p, _⟩ := I.list hs
    obtain ⟨o1, ho1, _⟩ := id p.isList
    refine ⟨_, _, begins_list a its.toArray, p.isList, fun h i e => ⟨_, e, rfl, rfl⟩, fun b hb => ?_⟩
    rw [ha] at hb
    rw [List.mem_singleton.mp hb]
    exact Heap.lt_size ho1
  · subst h
    cases r
    obtain ⟨its, rv, p, _⟩ := I.tuple hs
    obtain ⟨o1, ho1, _⟩ := id p
    refine ⟨_, _, begins_tuple a its.toArray, p, fun h i e => ⟨_, e, rfl, rfl⟩, fun b hb => ?_⟩
    rw [ha] at hb
    rw [List.mem_singleton.mp hb]
    exact Heap.lt_size ho1
  · subst h
    obtain ⟨t, rfl⟩ := r
    exact ⟨_, _, begins_text y t, trivial, fun h i e => ⟨t, _, e, rfl, rfl⟩, fun b hb => nomatch hb⟩
/-- a value as a source -/
def srcOf (x : V) (S : Src) : Prop := (∃ a, x = .ref a ∧ S.ad = [a] ∧ (S = .lst a ∨ S = .tup a)) ∨ ∃ y, S = .str y ∧ x = .str y
def iEn (K : PySem.W.Frag) (ta : TA) (k₀ : Int) : TI := fun σ H R => ta σ H fun vs H1 => ∃ x S us, vs = [x] ∧ srcOf x S ∧ S.sq K H1 us ∧ R (ItE K S k₀) H1
section
variable {X : Cx} {a b : Expr} {ta tb : TA} {p pos tpos : Pos} {elts : List Expr} {kk : Nat}
theorem fresh2 {pins : List (Addr × Obj)} {σ : L2.St} {H : Hp} {s : Shared} (I : L2.Inv X pins σ H s) : ∀ b ∈ [s.heap.objs.size + 1, s.heap.objs.size], FpOk X pins H b := fun b hb => by
  have e' : b = s.heap.objs.size + 1 ∨ b = s.heap.objs.size := by simpa using hb
  have hle : s.heap.objs.size ≤ b := by
    rcases e' with z | z
    · rw [z]; exact Nat.le_add_right _ _
    · rw [z]; exact Nat.le_refl _
  exact I.fpOk hle (I.hok.fresh hle)
theorem pi_go {pins : List (Addr × Obj)} {σ : L2.St} {H : Hp} {s : Shared} {S : Src} {us : List V} {x : V} {v : Value} {o : Obj} {k₀ : Int} {R : It → Hp → Prop} {h' : Heap} (I : L2.Inv X pins σ H s) (hlt : ∀ a ∈ S.ad, a < s.heap.objs.size) (hit : ∀ h i, h.get? i = some o → S.it h i 0)
    (he : IsEnum h' (s.heap.objs.size + 1) s.heap.objs.size k₀ .none) (ho : h'.get? s.heap.objs.size = some o) (hk : ∀ b o, s.heap.get? b = some o → h'.get? b = some o) (q : R (ItE X.K S k₀) H) :
    wpAny (model X.prog X.w) X.A (pyIter (.ref (s.heap.objs.size + 1))) (PIE X pins σ (.Tuple elts kk tpos) R) X.xe { s with heap := h' } := by
  refine wpAny_pyIter_enum he ?_
  have I2 : L2.Inv X pins σ H { s with heap := h' } := I.kept (t' := s.toks) hk
  refine ⟨s.heap.objs.size + 1, [s.heap.objs.size + 1, s.heap.objs.size], _, _, H, rfl, I2, turnE S (s.heap.objs.size + 1) s.heap.objs.size k₀ (Nat.succ_ne_self _) (fun a z => ?_), ⟨⟨.none, ?_⟩, hit _ _ ho⟩, fresh2 I, q⟩
  · have := hlt a z
    exact ⟨Nat.ne_of_gt (Nat.lt_succ_of_lt this), Nat.ne_of_lt this⟩
  · rw [show k₀ + ((0 : Nat) : Int) = k₀ by simp]
    exact he
/-- enumerate(v), v told by how it begins -/
theorem meets_en {v : Value} {o : Obj} {B : Heap → Prop} (hB : Begins v o B) :
    Meets (Builtin.«enumerate.__new__» ⟨[.type "enumerate", v], []⟩) (fun _ R s => B s.heap ∧
      R (.ok (.ret (.ref (s.heap.push o).objs.size))) { s with heap := (s.heap.push o).push { cls := .type "enumerate", data := .fields #[.none, .bool false, .ref s.heap.objs.size, rawInt 0, .none, .none] } }) :=
  .of_wp fun prog w A R s hh => by
    obtain ⟨hp, gs, dr, tk, os⟩ := s
    obtain ⟨hb, hr⟩ := hh
    have hsub := sub_enumerate
    have qi : ∀ {A' : Around} {E : Value → Shared → Prop} {Q : Value → Shared → Prop}, Q (.ref hp.objs.size) ⟨hp.push o, gs, dr, tk, os⟩ → wpAny (model prog w) A' (pyIter v) Q E ⟨hp, gs, dr, tk, os⟩ := fun z => hB.iter prog w _ _ ⟨hp, gs, dr, tk, os⟩ _ hb z
    wp_walk using qi
    refine wpAny_stack_any fun st => wpAny_pure ?_
    split
    · next c _ _ _ _ _ =>
      cases (c == Value.type "enumerate") <;> (wp_walk using qi; exact ⟨_, rfl, hr⟩)
    · wp_walk using qi
      exact ⟨_, rfl, hr⟩
theorem en_begins {prog : Program} {w : World} {A : Around} {E : Value → Shared → Prop} {s : Shared} {v : Value} {o : Obj} {B : Heap → Prop} {Q : Value → Shared → Prop} (hB : Begins v o B) (hb : B s.heap)
    (h : ∀ h', IsEnum h' (s.heap.objs.size + 1) s.heap.objs.size 0 .none → h'.get? s.heap.objs.size = some o → (∀ b o, s.heap.get? b = some o → h'.get? b = some o) → Q (.ref (s.heap.objs.size + 1)) { s with heap := h' }) :
    wpAny (model prog w) A (call (.type "enumerate") [v]) Q E s := by
  refine callType_new F.called_enumerate (by decide) (F.typeCall_enumerate_1 _) (F.newCall_enumerate_1 _) (fun ob => F.args_object_init_2 ob _) F.entry_enumerate_new (meets_en hB) ⟨hb, ?_⟩
  have hz : (s.heap.push o).objs.size = s.heap.objs.size + 1 := Heap.size_push ..
  have he := Heap.get?_push_size (s.heap.push o) (o := { cls := .type "enumerate", data := .fields #[.none, .bool false, .ref s.heap.objs.size, rawInt 0, .none, .none] }) rfl
  show _ ∧ _
  rw [hz] at he ⊢
  exact ⟨⟨_, he, rfl⟩, h _ he (Heap.get?_push_of_some _ (Heap.get?_push_size _ hB.free)) fun b u z => Heap.get?_push_of_some _ (Heap.get?_push_of_some _ z)⟩
theorem pi_en (hg : Gl X "enumerate") (hm : X.mg "enumerate" = none) (ha : PA X [a] ta) (hs : nst a = true) : PI X (.Tuple elts kk tpos) (.Call (.Name "enumerate" p) [a] [] pos) (iEn X.K ta 0) := by
  refine ⟨fun pins s σ H R I h => ?_⟩
  refine Call_ (ld_blt I hg hm boot_enumerate (PyProof.Rows.callWith_type1 (thn (ha.run pos pins s σ H _ I h) fun us s1 ⟨vs, H1, I1, r1, x, S, us', ev, hx, hq, q⟩ => ?_) (star1 hs []) (by with_unfolding_all rfl)))
  subst ev
  obtain ⟨v, rfl, r⟩ := vals1 r1
  obtain ⟨o, B, hB, hb, hit, hlt⟩ := Src.begins I1 hq hx r
  exact en_begins hB hb fun h' he ho hk => pi_go (x := x) (v := v) (us := us') I1 hlt hit he ho hk q
/-- a built-in class called with keywords -/
theorem with_tyKw {M : Model} {A : Around} {E : Value → Shared → Prop} {s : Shared} {pos : Pos} {T : String} {args : List (Bool × Sem Value)} {kws : List (Option Str × Sem Value)} {Q : Value → Shared → Prop} (h1 : args.any (·.1) = false) (h2 : kws.any (·.1.isNone) = false)
    (h : wpAny M A (evalArgs (.type T) true args kws) (fun z s₁ => wpAny M A (call (.type T) z.pos z.kw) Q E s₁) E s) : wpAny M A (callWith pos (.type T) [] args kws) Q E s := by
  unfold callWith
  refine wpAny_bind (wpAny_holding (wpAny_mono h (fun z s₁ hz => wpAny_bind (wpAny_standAt ?_)) fun _ _ y => y))
  rw [h1, h2]
  refine wpAny_bind (wpAny_pure ?_)
  exact wpAny_bind (wpAny_mono hz (fun r s₂ hr => wpAny_bind (wpAny_holding (wpAny_point (wpAny_pure hr)))) fun _ _ y => y)
/-- enumerate(e, start=k) -/
theorem pi_en1 {k₀ : Int} {j : Nat} {kp kp2 : Pos} (hk0 : -(2 ^ 63) ≤ k₀) (hk1 : k₀ < 2 ^ 63) (hg : Gl X "enumerate") (hm : X.mg "enumerate" = none) (ha : PA X [a] ta) (hs : nst a = true) :
    PI X (.Tuple elts kk tpos) (.Call (.Name "enumerate" p) [a] [⟨some "start", .Constant (.int k₀) j kp, kp2⟩] pos) (iEn X.K ta k₀) := by
  refine ⟨fun pins s σ H R I h => ?_⟩
  have hpk : PK X [⟨some "start", .Constant (.int k₀) j kp, kp2⟩] (tCons (tC (.int k₀)) tNil) := pk_cons pe_int pk_nil
  refine wpAny_Call_Name_kw (ld_blt I hg hm boot_enumerate (with_tyKw (star_any [a] (by simp [hs])) (by with_unfolding_all rfl) ?_))
  refine PyProof.Rows.evalArgs_kw2 (by with_unfolding_all rfl) (thn (ha.run pos pins s σ H _ I h) fun us s1 ⟨vs, H1, I1, r1, x, S, us', ev, hx, hq, q⟩ => ?_) (by first | (rw [star1 hs]; done) | (rw [star1 hs]; rfl) | rw [star1 hs])
  refine thn (hpk.run pos pins s1 σ H1 (fun zs H2 => zs = [.int k₀] ∧ H2 = H1) I1 ⟨rfl, rfl⟩) fun ws s2 ⟨zs, H2, I2, r2, e1, e2⟩ => ?_
  subst ev e1 e2
  obtain ⟨v, rfl, r⟩ := vals1 r1
  obtain ⟨w, rfl, t, rfl⟩ := vals1 r2
  obtain ⟨o, B, hB, hb, hit, hlt⟩ := Src.begins I2 hq hx r
  exact enum_begins_start hB hb hk0 hk1 fun h' he ho _ hk => pi_go (x := x) (v := v) (us := us') I2 hlt hit he ho hk q
/-! ### zip -/
def ItZ (K : PySem.W.Frag) (S T : Src) : It :=
  ⟨fun i H => ∃ (us ws : List V) (x y : V), S.sq K H us ∧ T.sq K H ws ∧ us[i]? = some x ∧ ws[i]? = some y, fun i H v H' => ∃ U x y, v = .ref U ∧ H U = none ∧ H' = upd H U (.tup [x, y]) ∧ (∀ us, S.sq K H us → us[i]? = some x) ∧ ∀ ws, T.sq K H ws → ws[i]? = some y,
    fun i H => ∃ us ws : List V, S.sq K H us ∧ T.sq K H ws ∧ i = min us.length ws.length⟩
theorem turnZ {P : Program} {w : World} {K : PySem.W.Frag} {S T : Src} {N : Addr} (h1 : ∀ a ∈ S.ad, a < N) (h2 : ∀ a ∈ T.ad, a < N) :
    Turn P w K (.Tuple elts kk tpos) (ItZ K S T) [N + 4, N + 2, N + 3, N, N + 1] (N + 4) (fun n h => IsZip h (N + 4) (N + 2) (N + 3) .none ∧ IsPair h (N + 2) (.ref N) (.ref (N + 1)) ∧ (∃ x y, IsPair h (N + 3) x y) ∧ S.it h N n ∧ T.it h (N + 1) n) where
  mem := by simp
  obj := fun n h q c hc => by
    obtain ⟨gz, gI, ⟨x, y, gO⟩, i1, i2⟩ := q
    simp only [List.mem_cons, List.not_mem_nil, or_false] at hc
    rcases hc with rfl | rfl | rfl | rfl | rfl
    · exact ⟨_, gz, fun v q => nomatch q⟩
    · exact ⟨_, gI, fun v q => nomatch q⟩
    · exact ⟨_, gO, fun v q => nomatch q⟩
    · exact Src.it_ob i1
    · exact Src.it_ob i2
  keep := fun n h h' q k => by
    obtain ⟨gz, gI, ⟨x, y, gO⟩, i1, i2⟩ := q
    exact ⟨k _ (by simp) _ gz, k _ (by simp) _ gI, ⟨x, y, k _ (by simp) _ gO⟩, Src.it_at i1 fun o e => k _ (by simp) o e, Src.it_at i2 fun o e => k _ (by simp) o e⟩
  item := by
    intro X hP hw hK hc n pins s σ H E I hf q hg
    subst hP hw hK
    obtain ⟨gz, gI, ⟨x0, y0, gO⟩, i1, i2⟩ := q
    obtain ⟨us, ws, x, y, qx, qy, hx, hy⟩ := hg
    obtain ⟨P1, St1, D1, st1, b1, rel1⟩ := Src.draws I (I.ok.hd hc) qx i1 fun a z => Nat.ne_of_lt (h1 a z)
    obtain ⟨P2, St2, D2, st2, b2, rel2⟩ := Src.draws I (I.ok.hd hc) qy i2 fun a z => Nat.ne_of_lt (Nat.lt_succ_of_lt (h2 a z))
    have hzl : N + 4 < s.heap.objs.size := Heap.lt_size gz
    refine wpAny_pyNext_zipD2_item (zip_sep2 h1 h2) D1 D2 gz gI gO st1 st2 (List.getElem?_eq_some_iff.mp hx).1 (List.getElem?_eq_some_iff.mp hy).1 fun v1 v2 h' tk p1 p2 z' o' s1 s2 hT hsz hk => ?_
    refine ⟨_, rfl, wpAny_letOwnedTupleGo_zip (s := { s with heap := h', toks := tk }) z' fun h'' z'' sb => ?_⟩
    have hT2 := (sb.2 _ (Nat.ne_of_gt hzl)).trans hT
    have new : ObjOk X.prog X.w (upd H s.heap.objs.size (.tup [x, y])) h'' s.heap.objs.size (.tup [x, y]) := ⟨by show 2 ≤ sizeLine; decide, [v1, v2], .cons (rel1 n v1 x p1 hx) (.cons (rel2 n v2 y p2 hy) .nil), ⟨_, hT2, rfl, _, rfl⟩⟩
    have I1 : L2.Inv X pins σ (upd H s.heap.objs.size (.tup [x, y])) { s with heap := h'', toks := tk } := by
      refine I.turnedNew (t' := tk) (ch := [N + 4, N + 2, N + 3, N, N + 1]) (fun c o hb e => ?_) hf (Nat.le_refl _) new
      simp only [List.mem_cons, List.not_mem_nil, or_false, not_or] at hb
      exact (sb.2 c hb.1).trans (hk c o hb.1 hb.2.2.1 hb.2.2.2.1 hb.2.2.2.2 e)
    have ne4 : ∀ k, k ≠ 4 → N + k ≠ N + 4 := fun k hk z => hk (Nat.add_left_cancel z)
    refine ⟨.ref s.heap.objs.size, _, I1, rfl, ⟨_, x, y, rfl, I.hok.fresh (Nat.le_refl _), rfl, fun l hl => by rw [Src.inj I hl qx]; exact hx, fun l hl => by rw [Src.inj I hl qy]; exact hy⟩, ⟨z'', ?_, ⟨v1, v2, ?_⟩, ?_, ?_⟩, fun c hcm => ?_⟩
    · exact (sb.2 _ (ne4 2 (by decide))).trans (hk _ _ (ne4 2 (by decide)) (fun z => absurd (Nat.add_left_cancel z) (by decide)) (fun z => absurd (Nat.add_left_cancel (z.trans (Nat.add_zero N).symm)) (by decide)) (fun z => absurd (Nat.add_left_cancel z) (by decide)) gI)
    · exact (sb.2 _ (ne4 3 (by decide))).trans o'
    · exact Src.it_at (b1 _ _ s1) fun o e => (sb.2 _ (ne4 0 (by decide))).trans e
    · exact Src.it_at (b2 _ _ s2) fun o e => (sb.2 _ (ne4 1 (by decide))).trans e
    · have hlt : c < s.heap.objs.size := by
        simp only [List.mem_cons, List.not_mem_nil, or_false] at hcm
        rcases hcm with rfl | rfl | rfl | rfl | rfl
        · exact hzl
        · exact Heap.lt_size gI
        · exact Heap.lt_size gO
        · obtain ⟨_, e1, _⟩ := Src.it_ob i1
          exact Heap.lt_size e1
        · obtain ⟨_, e2, _⟩ := Src.it_ob i2
          exact Heap.lt_size e2
      rw [upd_ne (Nat.ne_of_lt hlt)]
      exact (hf c hcm).1
  done := by
    intro X hP hw hK hc n pins s σ H E I hf q hg
    subst hP hw hK
    obtain ⟨gz, gI, ⟨x0, y0, gO⟩, i1, i2⟩ := q
    obtain ⟨us, ws, qx, qy, hn⟩ := hg
    obtain ⟨P1, St1, D1, st1, b1, rel1⟩ := Src.draws I (I.ok.hd hc) qx i1 fun a z => Nat.ne_of_lt (h1 a z)
    obtain ⟨P2, St2, D2, st2, b2, rel2⟩ := Src.draws I (I.ok.hd hc) qy i2 fun a z => Nat.ne_of_lt (Nat.lt_succ_of_lt (h2 a z))
    refine wpAny_pyNext_zipD2_end (zip_sep2 h1 h2) D1 D2 gz gI gO st1 st2 (by omega) (by omega) (by omega) fun h' tk hk => ⟨rfl, ?_⟩
    refine I.turnedL (t' := tk) (ch := [N + 4, N + 2, N + 3, N, N + 1]) (fun c o hb e => ?_) hf
    simp only [List.mem_cons, List.not_mem_nil, or_false, not_or] at hb
    exact hk c o hb.1 hb.2.2.1 hb.2.2.2.1 hb.2.2.2.2 e
  self := fun A n s Q E q h => wpAny_pyIter_zip q.1 h
def iZp (K : PySem.W.Frag) (ta : TA) : TI := fun σ H R => ta σ H fun vs H1 => ∃ x y S T us ws, vs = [x, y] ∧ srcOf x S ∧ srcOf y T ∧ S.sq K H1 us ∧ T.sq K H1 ws ∧ R (ItZ K S T) H1
theorem pi_zp (hg : Gl X "zip") (hm : X.mg "zip" = none) (ha : PA X [a, b] ta) (hs : nst a = true) (hs2 : nst b = true) : PI X (.Tuple elts kk tpos) (.Call (.Name "zip" p) [a, b] [] pos) (iZp X.K ta) := by
  refine ⟨fun pins s σ H R I h => ?_⟩
  refine Call_ (ld_blt I hg hm PyProof.Rows.boot_zip (PyProof.Rows.callWith_type1 (thn (ha.run pos pins s σ H _ I h) fun us s1 ⟨vs, H1, I1, r1, x, y, S, T, us', ws', ev, hx, hy, hq, hq2, q⟩ => ?_) (star1 hs [b]) (star_any [b] (by simp [hs2]))))
  subst ev
  obtain ⟨v1, v2, rfl, rv1, rv2⟩ := vals2 r1
  obtain ⟨o1, B1, hB1, hb1, hit1, hlt1⟩ := Src.begins I1 hq hx rv1
  obtain ⟨o2, B2, hB2, hb2, hit2, hlt2⟩ := Src.begins I1 hq2 hy rv2
  refine zip_begins2 hB1 hB2 hb1 hb2 fun h' hz hTI hTO e1 e2 hsz hk => wpAny_pyIter_zip hz ?_
  have I2 : L2.Inv X pins σ H1 { s1 with heap := h' } := I1.kept (t' := s1.toks) hk
  refine ⟨s1.heap.objs.size + 4, _, _, _, H1, rfl, I2, turnZ hlt1 hlt2, ⟨hz, hTI, ⟨_, _, hTO⟩, hit1 _ _ e1, hit2 _ _ e2⟩, fun c hcm => ?_, q⟩
  have hle : s1.heap.objs.size ≤ c := by
    simp only [List.mem_cons, List.not_mem_nil, or_false] at hcm
    rcases hcm with rfl | rfl | rfl | rfl | rfl <;> first | exact Nat.le_refl _ | exact Nat.le_add_right _ _
  exact I1.fpOk hle (I1.hok.fresh hle)
end
end Rf
/-! # R6: names stored, targets, what is walked -/
namespace Rf
open PySem PySem.Spec PyProof.Rows L2 Evl

section
variable {K : PySem.W.Frag} {cad : Cad} {q : Bool} {g g' : Gh} {H H' : Hp} {v : V} {d : Dat} {σ : L2.St} {ρ : Env} {M : Mo}
theorem DicAt.up {l : Addr} : ∀ {n : Bool} {kvs : List (Dat × Dat)} (r : Gr true g g' H H') (e : Ex H H') (k : Kd g H) (h : DicAt K cad g H l n kvs), DicAt K cad g' H' l n kvs
  | false, _, r, e, k, ⟨kv, h1, h2, h3⟩ => ⟨kv, e _ _ h1, h2, h3.gr r k⟩
  | true, _, r, e, k, ⟨o, xs, vs, h1, h2, h3, h4, h5, h6⟩ => ⟨o, xs, vs, e _ _ h1, h2, h3, h4.gr r k, h5, h6.gr r k⟩
theorem FldRep.up {h : Nat} {f : Str} (r : Gr true g g' H H') (e : Ex H H') (k : Kd g H) : ∀ {fl : Fld}, FldRep K cad g H h f v fl → FldRep K cad g' H' h f v fl
  | .dat _, z => Rep.gr r k z
  | .lst _ _, ⟨l, us, h1, h2, h3, h4, h5⟩ => ⟨l, us, h1, e _ _ h2, by rw [(r.qg rfl).2]; exact h3, h4.gr r k, r.tb h5⟩
  | .dic _ _, ⟨l, h1, h2, h3⟩ => ⟨l, h1, by rw [(r.qg rfl).2]; exact h2, h3.up r e k⟩
theorem FsRep.up {h : Nat} (r : Gr true g g' H H') (e : Ex H H') (k : Kd g H) : ∀ {fs : List (Str × V)} {gs : List (Str × Fld)}, FsRep K cad g H h fs gs → FsRep K cad g' H' h fs gs
  | _, _, .nil => .nil
  | _, _, .cons z t => .cons (FldRep.up r e k z) (FsRep.up r e k t)
theorem WOk.up (r : Gr true g g' H H') (e : Ex H H') (k : Kd g H) (w : WOk K cad g H M) : WOk K cad g' H' M where
  len := by rw [(r.qg rfl).1]; exact w.len
  inj := by rw [(r.qg rfl).1]; exact w.inj
  ins := fun h a i ha hi hc => by
    rw [(r.qg rfl).1] at ha
    obtain ⟨C, dx, fs, c1, c2, c3⟩ := w.ins h a i ha hi hc
    exact ⟨C, dx, fs, c1, e _ _ c2, c3.up r e k⟩
  nd := w.nd
  fd := w.fd
  tw := by rw [(r.qg rfl).1, (r.qg rfl).2]; exact w.tw
  dm := w.dm
  nc := w.nc
/-- more things to keep off, and more things -/
theorem SInv.up (r : Gr true g g' H H') (e : Ex H H') (k' : Kd g' H') (I : SInv K cad σ H g ρ M) : SInv K cad σ H' g' ρ M where
  kd := k'
  wok := I.wok.up r e I.kd
  len := I.len
  dat := fun i d h => by
    obtain ⟨v, h1, h2⟩ := I.dat i d h
    exact ⟨v, h1, h2.gr r I.kd⟩
  own := fun i xs h => by
    obtain ⟨l, us, h1, h2, h3, h4⟩ := I.own i xs h
    exact ⟨l, us, h1, e _ _ h2, r.Lo l h3, h4.gr r I.kd⟩
  sep := I.sep
/-- the ghosts with one more list of one's own -/
def Gh.add (g : Gh) (D : Addr) : Gh := { g with Lo := fun a => g.Lo a ∨ a = D }
theorem Gh.add_gr {D : Addr} (n : H D = none) (e : Ex H H') : Gr true g (g.add D) H H' where
  keep := fun a o h _ _ => e a o h
  keepW := fun _ a o h _ => e a o h
  dom := ex_dom e
  tbl := ⟨[], by simp [Gh.add]⟩
  W := fun _ h => h
  nW := fun _ h => .inl h
  qg := fun _ => ⟨rfl, rfl⟩
  Lc := rfl
  Lo := fun _ h => .inl h
  nLo := fun a h => h.elim .inl fun z => .inr (by rw [z]; exact n)
theorem Gh.add_kd {D : Addr} {o : HO} (k : Kd g H) (n : H D = none) (e : Ex H H') (hD : H' D = some o) (m : MutK o) : Kd (g.add D) H' where
  ob := fun a z => by
    rcases z with z | z | z | z
    · obtain ⟨o, h, m⟩ := k.ob a (.inl z); exact ⟨o, e a o h, m⟩
    · obtain ⟨o, h, m⟩ := k.ob a (.inr (.inl z)); exact ⟨o, e a o h, m⟩
    · obtain ⟨o, h, m⟩ := k.ob a (.inr (.inr z)); exact ⟨o, e a o h, m⟩
    · rw [z]; exact ⟨o, hD, m⟩
  lo := fun a z => by
    rcases z with z | z
    · exact k.lo a z
    · intro w
      subst z
      exact k.fresh n (.inl w)
  lc := fun a z => ⟨(k.lc a z).1, fun y => y.elim (k.lc a z).2 fun y => by subst y; exact k.fresh n (.inr (.inl z))⟩
theorem SInv.add {D : Addr} {o : HO} (I : SInv K cad σ H g ρ M) (n : H D = none) (e : Ex H H') (hD : H' D = some o) (m : MutK o) : SInv K cad σ H' (g.add D) ρ M :=
  I.up (Gh.add_gr n e) e (Gh.add_kd I.kd n e hD m)
/-- a name gets data -/
theorem SInv.set {j : Nat} (I : SInv K cad σ H g ρ M) (r : Rep K g H v d) : SInv K cad (σ.set j (some v)) H g (ρ.set j (some (.dat d))) M where
  kd := I.kd
  wok := I.wok
  len := by rw [List.length_set, List.length_set]; exact I.len
  dat := fun i e h => by
    by_cases z : j = i
    · subst z
      have hj : j < ρ.length := by
        have := (List.getElem?_eq_some_iff.mp h).1
        rw [List.length_set] at this
        exact this
      rw [List.getElem?_set_self hj] at h
      cases h
      exact ⟨v, by rw [List.getElem?_set_self (by rw [I.len]; exact hj)], r⟩
    · rw [List.getElem?_set_ne z] at h
      obtain ⟨u, h1, h2⟩ := I.dat i e h
      exact ⟨u, by rw [List.getElem?_set_ne z]; exact h1, h2⟩
  own := fun i xs h => by
    by_cases z : j = i
    · subst z
      have hj : j < ρ.length := by
        have := (List.getElem?_eq_some_iff.mp h).1
        rw [List.length_set] at this
        exact this
      rw [List.getElem?_set_self hj] at h
      cases h
    · rw [List.getElem?_set_ne z] at h
      obtain ⟨l, us, h1, h2⟩ := I.own i xs h
      exact ⟨l, us, by rw [List.getElem?_set_ne z]; exact h1, h2⟩
  sep := fun i k xs ys l ne h1 h2 h3 => by
    have nj : ∀ {i : Nat} {xs : List Dat}, (ρ.set j (some (.dat d)))[i]? = some (some (.mut xs)) → j ≠ i := fun {i xs} h z => by
      subst z
      have hj : j < ρ.length := by
        have := (List.getElem?_eq_some_iff.mp h).1
        rw [List.length_set] at this
        exact this
      rw [List.getElem?_set_self hj] at h
      cases h
    have n1 := nj h1
    have n2 := nj h2
    rw [List.getElem?_set_ne n1] at h1 h3
    rw [List.getElem?_set_ne n2] at h2
    rw [List.getElem?_set_ne n2]
    exact I.sep i k xs ys l ne h1 h2 h3
/-- a name forgotten -/
theorem SInv.forget {j : Nat} (I : SInv K cad σ H g ρ M) : SInv K cad (σ.set j none) H g (ρ.set j none) M where
  kd := I.kd
  wok := I.wok
  len := by rw [List.length_set, List.length_set]; exact I.len
  dat := fun i e h => by
    by_cases z : j = i
    · subst z
      have hj : j < ρ.length := by
        have := (List.getElem?_eq_some_iff.mp h).1
        rw [List.length_set] at this
        exact this
      rw [List.getElem?_set_self hj] at h
      cases h
    · rw [List.getElem?_set_ne z] at h ⊢
      exact I.dat i e h
  own := fun i xs h => by
    by_cases z : j = i
    · subst z
      have hj : j < ρ.length := by
        have := (List.getElem?_eq_some_iff.mp h).1
        rw [List.length_set] at this
        exact this
      rw [List.getElem?_set_self hj] at h
      cases h
    · rw [List.getElem?_set_ne z] at h ⊢
      exact I.own i xs h
  sep := fun i k xs ys l ne h1 h2 h3 => by
    have nj : ∀ {i : Nat} {xs : List Dat}, (ρ.set j none)[i]? = some (some (.mut xs)) → j ≠ i := fun {i xs} h z => by
      subst z
      have hj : j < ρ.length := by
        have := (List.getElem?_eq_some_iff.mp h).1
        rw [List.length_set] at this
        exact this
      rw [List.getElem?_set_self hj] at h
      cases h
    have n1 := nj h1
    have n2 := nj h2
    rw [List.getElem?_set_ne n1] at h1 h3
    rw [List.getElem?_set_ne n2] at h2
    rw [List.getElem?_set_ne n2]
    exact I.sep i k xs ys l ne h1 h2 h3
def wipeE (ρ : Env) : List Nat → Env
  | [] => ρ
  | j :: js => (wipeE ρ js).set j none
theorem SInv.wipe (I : SInv K cad σ H g ρ M) : ∀ vs : List Nat, SInv K cad (L2.wipe σ vs) H g (wipeE ρ vs) M
  | [] => I
  | j :: js => (SInv.wipe I js).forget
end

/-! ### targets -/
abbrev TgF := Dat → Env → Option Env
def tgName (j : Nat) : TgF := fun d ρ => some (ρ.set j (some (.dat d)))
def tgNames : List Nat → List Dat → Env → Option Env
  | [], [], ρ => some ρ
  | j :: js, d :: ds, ρ => tgNames js ds (ρ.set j (some (.dat d)))
  | _, _, _ => none
def tgTup (js : List Nat) : TgF := fun d ρ => match d with
  | .tuple ds => tgNames js ds ρ
  | _ => none
/-- the slots behind the stores -/
def sets (σ : L2.St) : List Nat → List V → L2.St
  | j :: js, v :: vs => sets (σ.set j (some v)) js vs
  | _, _ => σ
def tGD (K : PySem.W.Frag) (cad : Cad) (js : List Nat) (f : TgF) : TG := fun v σ H Q => ∃ g ρ M d ρ', SInv K cad σ H g ρ M ∧ Rep K g H v d ∧ f d ρ = some ρ' ∧ ∀ vs, SInv K cad (sets σ js vs) H g ρ' M → Q (sets σ js vs) H
def QG (cad : Cad) (X : Cx) (tg : Expr) (js : List Nat) (f : TgF) : Prop := PG X tg (tGD X.K cad js f)
theorem PG.weak {X : Cx} {e : Expr} {t t' : TG} (h : PG X e t) (k : ∀ v σ H Q, t' v σ H Q → t v σ H Q) : PG X e t' := ⟨fun pins s σ H v u Q I r q => h.run pins s σ H v u Q I r (k v σ H Q q)⟩
section
variable {X : Cx} {cad : Cad} {pos : Pos}
theorem qg_name {j : Nat} {x : Str} (hN : X.N.Nodup) (hi : X.N[j]? = some x) (hx : Loc X.env.scope x) (hf : X.fn x = true ∨ X.env.scope.names.lookup x = some .local) : QG cad X (.Name x pos) [j] (tgName j) :=
  PG.weak (pg_name hN hi hx hf) fun v σ H Q ⟨g, ρ, M, d, ρ', I, r, e, q⟩ => by
    cases e
    exact q [v] (I.set r)
/-- names that are stored one behind the other -/
def nmsOk (X : Cx) : List Expr → List Nat → Prop
  | [], [] => True
  | .Name x _ :: es, j :: js => X.N[j]? = some x ∧ Loc X.env.scope x ∧ (X.fn x = true ∨ X.env.scope.names.lookup x = some .local) ∧ nmsOk X es js
  | _, _ => False
theorem nms_each {es : List Expr} {js : List Nat} (h : nmsOk X es js) : (assignEach es X.env).length = js.length ∧ (assignEach es X.env).findIdx? (·.1) = none := by
  induction es generalizing js with
  | nil =>
    cases js with
    | nil => exact ⟨by with_unfolding_all rfl, by with_unfolding_all rfl⟩
    | cons j js => exact False.elim h
  | cons e es ih =>
    cases js with
    | nil => cases e <;> exact False.elim h
    | cons j js =>
      cases e with
      | Name x p =>
        obtain ⟨h1, h2⟩ := ih h.2.2.2
        have e1 : assignEach (.Name x p :: es) X.env = (false, assign (.Name x p) X.env) :: assignEach es X.env := by with_unfolding_all rfl
        rw [e1]
        refine ⟨by simp [h1], ?_⟩
        rw [List.findIdx?_cons, h2]
        rfl
      | _ => exact False.elim h
def gNs (js : List Nat) : TGs := fun vs σ H Q => vs.length = js.length ∧ Q (sets σ js vs) H
theorem pgs_names (hN : X.N.Nodup) : ∀ {es : List Expr} {js : List Nat}, nmsOk X es js → PGs X es (gNs js)
  | [], [], _ => ⟨fun pins s σ H vs us Q I r h => by
    obtain ⟨e, h⟩ := h
    have : vs = [] := List.length_eq_zero_iff.mp e
    subst this
    exact pgs_nil.run pins s σ H [] us Q I r ⟨rfl, h⟩⟩
  | .Name x p :: es, j :: js, h => by
    have hp := pgs_cons (pg_name (pos := p) hN h.1 h.2.1 h.2.2.1) (pgs_names hN h.2.2.2) (by with_unfolding_all rfl)
    refine ⟨fun pins s σ H vs us Q I r hq => ?_⟩
    obtain ⟨e, hq⟩ := hq
    cases vs with
    | nil => cases e
    | cons v vs => exact hp.run pins s σ H (v :: vs) us Q I r ⟨v, vs, rfl, Nat.succ.inj e, hq⟩
  | [], _ :: _, h => False.elim h
  | .Name _ _ :: _, [], h => False.elim h
theorem tgNames_go {K : PySem.W.Frag} {g : Gh} {H : Hp} {M : Mo} : ∀ {js : List Nat} {ds : List Dat} {vs : List V} {σ : L2.St} {ρ ρ' : Env}, SInv K cad σ H g ρ M → Reps K g H vs ds → tgNames js ds ρ = some ρ' → vs.length = js.length ∧ SInv K cad (sets σ js vs) H g ρ' M
  | [], _, _, _, _, _, I, .nil, e => by cases e; exact ⟨rfl, I⟩
  | [], _, _, _, _, _, I, .cons _ _, e => by cases e
  | j :: js, _, _, _, _, _, I, .nil, e => by cases e
  | j :: js, _, _, _, _, _, I, .cons r t, e => by
    obtain ⟨h1, h2⟩ := tgNames_go (js := js) (I.set (j := j) r) t e
    exact ⟨by simp [h1], h2⟩
theorem qg_tup {es : List Expr} {js : List Nat} {k : Nat} (hc : X.calm = true) (hN : X.N.Nodup) (h : nmsOk X es js) : QG cad X (.Tuple es k pos) js (tgTup js) := by
  obtain ⟨h1, h2⟩ := nms_each h
  refine PG.weak (pg_tup (n := js.length) hc (pgs_names hN h) h1 h2) fun v σ H Q ⟨g, ρ, M, d, ρ', I, r, e, q⟩ => ?_
  unfold tgTup at e
  split at e
  · obtain ⟨a, us, rfl, s1, t1⟩ := wr_tup r.weak
    obtain ⟨l1, I1⟩ := tgNames_go I t1 e
    exact ⟨a, us, rfl, s1, l1, l1, q us I1⟩
  · cases e
theorem sets_wipe : ∀ (js : List Nat) (vs : List V) (σ : L2.St) (ws : List Nat), (∀ j ∈ js, j ∈ ws) → L2.wipe (sets σ js vs) ws = L2.wipe σ ws
  | [], _, _, _, _ => by unfold sets; rfl
  | _ :: _, [], _, _, _ => by unfold sets; rfl
  | j :: js, v :: vs, σ, ws, h => by
    show L2.wipe (sets (σ.set j (some v)) js vs) ws = _
    rw [sets_wipe js vs _ ws fun k hk => h k (List.mem_cons_of_mem _ hk)]
    have hj : j ∈ ws := h j List.mem_cons_self
    have key : ∀ (ws : List Nat) (σ : L2.St), j ∈ ws → L2.wipe (σ.set j (some v)) ws = L2.wipe σ ws := by
      intro ws
      induction ws with
      | nil => intro σ z; cases z
      | cons k ws ih =>
        intro σ z
        show (L2.wipe (σ.set j (some v)) ws).set k none = (L2.wipe σ ws).set k none
        by_cases hk : j ∈ ws
        · rw [ih σ hk]
        · have e : j = k := by
            rcases List.mem_cons.mp z with z | z
            · exact z
            · exact absurd z hk
          subst e
          have comm : ∀ (ws : List Nat), j ∉ ws → L2.wipe (σ.set j (some v)) ws = (L2.wipe σ ws).set j (some v) := by
            intro ws
            induction ws with
            | nil => intro _; rfl
            | cons m ws ih2 =>
              intro hm
              show (L2.wipe (σ.set j (some v)) ws).set m none = ((L2.wipe σ ws).set m none).set j (some v)
              rw [ih2 fun z => hm (List.mem_cons_of_mem _ z), List.set_comm _ _ (fun z => hm (by rw [z]; exact List.mem_cons_self))]
          rw [comm ws hk, List.set_set]
    exact key ws σ hj
end
end Rf
/-! # R7: what is walked; comprehensions -/
namespace Rf
open PySem PySem.Spec PyProof.Rows L2 Evl

/-- a walk over data: what it yields, while C holds -/
structure Wlk (K : PySem.W.Frag) (J : It) (C : Gh → Hp → Prop) (ds : List Dat) : Prop where
  go : ∀ g i H, C g H → i < ds.length → J.go i H
  yld : ∀ g i H x H' d, Kd g H → C g H → ds[i]? = some d → J.yld i H x H' → Ex H H' ∧ Rep K g H' x d
  stop : ∀ g i H, C g H → i = ds.length → J.stop i H
  ex : ∀ g H H', Kd g H → C g H → Ex H H' → C g H'
  add : ∀ g g' H H', Kd g H → C g H → Gr true g g' H H' → Ex H H' → C g' H'
/-- .. whatever happens besides -/
def Firm (C : Gh → Hp → Prop) : Prop := ∀ q g g' H H', Kd g H → C g H → Gr q g g' H H' → C g' H'
abbrev IF := Mo → Env → Out (List Dat)
def tI (K : PySem.W.Frag) (cad : Cad) (W : WX) (firm : Bool) (f : IF) : TI := fun σ H R => ∃ g ρ M, SInv K cad σ H g ρ M ∧ (f M ρ).sat (fun ds => ∀ J C H', Ex H H' → Wlk K J C ds → C g H' → (firm = true → Firm C) → R J H') (exE K cad W g H σ)
def QI (cad : Cad) (X : Cx) (W : WX) (firm : Bool) (tg e : Expr) (f : IF) : Prop := PI X tg e (tI X.K cad W firm f)
def charsD (x : Str) : List Dat := x.cps.toList.map fun c => .str ⟨#[c]⟩
def itemsD : Dat → Out (List Dat)
  | .list ds => .ok ds
  | .tuple ds => .ok ds
  | .str x => .ok (charsD x)
  | _ => .bad
def qItems (a : QF) : IF := fun M ρ => (a M ρ).bind itemsD
/-! the sources -/
def Src.cw (K : PySem.W.Frag) (S : Src) (ds : List Dat) (g : Gh) (H : Hp) : Prop := ∃ us, S.sq K H us ∧ Reps K g H us ds
def Src.cf (K : PySem.W.Frag) (S : Src) (ds : List Dat) (g : Gh) (H : Hp) : Prop := ∃ us, (match S with
  | .lst a => LsAt K g H a us
  | .tup a => SqT K H a us
  | .str x => us = chars x) ∧ Reps K g H us ds
section
variable {K : PySem.W.Frag} {g g' : Gh} {H H' : Hp} {ds es : List Dat} {S T : Src}
theorem Src.sq_ex {us : List V} (e : Ex H H') (h : S.sq K H us) : S.sq K H' us := by
  cases S with
  | lst a => exact ex_l e h
  | tup a => exact ex_t e h
  | str x => exact h
theorem Src.cf_cw (h : S.cf K ds g H) : S.cw K ds g H := by
  obtain ⟨us, h1, h2⟩ := h
  refine ⟨us, ?_, h2⟩
  cases S with
  | lst a => exact LsAt.sq h1
  | tup a => exact h1
  | str x => exact h1
theorem Src.cf_firm : Firm (S.cf K ds) := fun q g g' H H' k ⟨us, h1, h2⟩ r => by
  refine ⟨us, ?_, h2.gr r k⟩
  cases S with
  | lst a => exact r.ls h1
  | tup a => exact r.sqT k h1
  | str x => exact h1
theorem Src.cw_add (k : Kd g H) (h : S.cw K ds g H) (r : Gr true g g' H H') (e : Ex H H') : S.cw K ds g' H' := by
  obtain ⟨us, h1, h2⟩ := h
  exact ⟨us, Src.sq_ex e h1, h2.gr r k⟩
theorem Src.cw_ex (k : Kd g H) (h : S.cw K ds g H) (e : Ex H H') : S.cw K ds g H' := Src.cw_add k h (Gr.ex e) e
end
section
variable {K : PySem.W.Frag} {ds es : List Dat} {S T : Src}
def ItS (K : PySem.W.Frag) : Src → It
  | .lst a => Itl K a
  | .tup a => Itt K a
  | .str x => Its x
theorem chars_rep {g : Gh} {H : Hp} (x : Str) : Reps K g H (chars x) (charsD x) := by
  unfold chars charsD
  induction x.cps.toList with
  | nil => exact .nil
  | cons c cs ih => exact .cons (.str _) ih
theorem Wlk.of {J : It} {C C' : Gh → Hp → Prop} (w : Wlk K J C ds) (h : ∀ g H, C' g H → C g H) (e : ∀ g H H', Kd g H → C' g H → Ex H H' → C' g H') (a : ∀ g g' H H', Kd g H → C' g H → Gr true g g' H H' → Ex H H' → C' g' H') : Wlk K J C' ds where
  go := fun g i H c hi => w.go g i H (h g H c) hi
  yld := fun g i H x H' d k c e y => w.yld g i H x H' d k (h g H c) e y
  stop := fun g i H c e => w.stop g i H (h g H c) e
  ex := e
  add := a
theorem wlk_src : Wlk K (ItS K S) (S.cw K ds) ds where
  go := fun g i H ⟨us, h1, h2⟩ hi => by
    have hx : us[i]? = some (us[i]'(by rw [h2.length]; exact hi)) := List.getElem?_eq_getElem _
    cases S with
    | lst a => exact ⟨us, _, h1, hx⟩
    | tup a => exact ⟨us, _, h1, hx⟩
    | str x =>
      show i < x.cps.size
      have := h2.length
      rw [show us = chars x from h1] at this
      unfold chars at this
      rw [List.length_map, Array.length_toList] at this
      omega
  yld := fun g i H x H' d k ⟨us, h1, h2⟩ e y => by
    obtain ⟨v, hv, rv⟩ := h2.get e
    cases S with
    | lst a =>
      obtain ⟨rfl, y⟩ := y
      have : x = v := Option.some.inj ((y us h1).symm.trans hv)
      rw [this]
      exact ⟨Ex.refl _, rv⟩
    | tup a =>
      obtain ⟨rfl, y⟩ := y
      have : x = v := Option.some.inj ((y us h1).symm.trans hv)
      rw [this]
      exact ⟨Ex.refl _, rv⟩
    | str z =>
      obtain ⟨rfl, c, hc, rfl⟩ := y
      rw [show us = chars z from h1] at hv
      unfold chars at hv
      rw [List.getElem?_map, Array.getElem?_toList, hc] at hv
      cases hv
      exact ⟨Ex.refl _, rv⟩
  stop := fun g i H ⟨us, h1, h2⟩ e => by
    have hl := h2.length
    cases S with
    | lst a => exact ⟨us, h1, by omega⟩
    | tup a => exact ⟨us, h1, by omega⟩
    | str x =>
      show x.cps.size ≤ i
      rw [show us = chars x from h1] at hl
      unfold chars at hl
      rw [List.length_map, Array.length_toList] at hl
      omega
  ex := fun g H H' k h e => Src.cw_ex k h e
  add := fun g g' H H' k h r e => Src.cw_add k h r e
/-- enumerate -/
def enumD (k₀ : Int) (ds : List Dat) : List Dat := ds.mapIdx fun i d => .tuple [.int (k₀ + (i : Int)), d]
theorem wlk_enum {k₀ : Int} : Wlk K (ItE K S k₀) (S.cw K ds) (enumD k₀ ds) where
  go := fun g i H ⟨us, h1, h2⟩ hi => by
    have hl : i < us.length := by
      rw [h2.length]
      unfold enumD at hi
      rw [List.length_mapIdx] at hi
      exact hi
    exact ⟨us, us[i], h1, List.getElem?_eq_getElem hl⟩
  yld := fun g i H x H' d k ⟨us, h1, h2⟩ e y => by
    unfold enumD at e
    rw [List.getElem?_mapIdx] at e
    cases hd : ds[i]? with
    | none => rw [hd] at e; cases e
    | some d0 =>
      rw [hd] at e
      cases e
      obtain ⟨v, hv, rv⟩ := h2.get hd
      obtain ⟨T, x0, rfl, nT, rfl, y⟩ := y
      have : x0 = v := Option.some.inj ((y us h1).symm.trans hv)
      subst this
      exact ⟨Ex.new nT, .tup (st_of upd_same) (.cons (.int _) (.cons (rv.ex (Ex.new nT) k) .nil))⟩
  stop := fun g i H ⟨us, h1, h2⟩ e => by
    unfold enumD at e
    rw [List.length_mapIdx, ← h2.length] at e
    exact ⟨us, h1, e.symm⟩
  ex := fun g H H' k h e => Src.cw_ex k h e
  add := fun g g' H H' k h r e => Src.cw_add k h r e
/-- zip -/
def zipD (ds es : List Dat) : List Dat := List.zipWith (fun d e => .tuple [d, e]) ds es
theorem wlk_zip : Wlk K (ItZ K S T) (fun g H => S.cw K ds g H ∧ T.cw K es g H) (zipD ds es) where
  go := fun g i H ⟨⟨us, h1, h2⟩, ⟨ws, h3, h4⟩⟩ hi => by
    unfold zipD at hi
    rw [List.length_zipWith, ← h2.length, ← h4.length] at hi
    exact ⟨us, ws, us[i], ws[i], h1, h3, List.getElem?_eq_getElem (by omega), List.getElem?_eq_getElem (by omega)⟩
  yld := fun g i H x H' d k ⟨⟨us, h1, h2⟩, ⟨ws, h3, h4⟩⟩ e y => by
    unfold zipD at e
    rw [List.getElem?_zipWith] at e
    cases hd : ds[i]? with
    | none => rw [hd] at e; cases e
    | some d0 =>
      cases he : es[i]? with
      | none => rw [hd, he] at e; cases e
      | some e0 =>
        rw [hd, he] at e
        cases e
        obtain ⟨v, hv, rv⟩ := h2.get hd
        obtain ⟨u, hu, ru⟩ := h4.get he
        obtain ⟨U, x0, y0, rfl, nU, rfl, y1, y2⟩ := y
        have : x0 = v := Option.some.inj ((y1 us h1).symm.trans hv)
        subst this
        have : y0 = u := Option.some.inj ((y2 ws h3).symm.trans hu)
        subst this
        exact ⟨Ex.new nU, .tup (st_of upd_same) (.cons (rv.ex (Ex.new nU) k) (.cons (ru.ex (Ex.new nU) k) .nil))⟩
  stop := fun g i H ⟨⟨us, h1, h2⟩, ⟨ws, h3, h4⟩⟩ e => by
    unfold zipD at e
    rw [List.length_zipWith, ← h2.length, ← h4.length] at e
    exact ⟨us, ws, h1, h3, e⟩
  ex := fun g H H' k h e => ⟨Src.cw_ex k h.1 e, Src.cw_ex k h.2 e⟩
  add := fun g g' H H' k h r e => ⟨Src.cw_add k h.1 r e, Src.cw_add k h.2 r e⟩
/-- range -/
def rangeD (lo : Int) (n : Nat) : List Dat := (List.range n).map fun (i : Nat) => .int (lo + (i : Int))
theorem wlk_range {lo : Int} {n : Nat} : Wlk K (Itr lo n) (fun _ _ => True) (rangeD lo n) where
  go := fun g i H _ hi => by
    unfold rangeD at hi
    rw [List.length_map, List.length_range] at hi
    exact hi
  yld := fun g i H x H' d k _ e y => by
    obtain ⟨rfl, rfl⟩ := y
    unfold rangeD at e
    rw [List.getElem?_map] at e
    cases hr : (List.range n)[i]? with
    | none => rw [hr] at e; cases e
    | some j =>
      rw [hr] at e
      cases e
      have : j = i := by
        obtain ⟨h1, h2⟩ := List.getElem?_eq_some_iff.mp hr
        rw [List.getElem_range] at h2
        exact h2.symm
      subst this
      exact ⟨Ex.refl _, .int _⟩
  stop := fun g i H _ e => by
    unfold rangeD at e
    rw [List.length_map, List.length_range] at e
    show n ≤ i
    omega
  ex := fun _ _ _ _ _ _ => trivial
  add := fun _ _ _ _ _ _ _ _ => trivial
end
section
variable {X : Cx} {cad : Cad} {W : WX} {tg a b : Expr} {fa fb : QF} {pos p tpos : Pos} {elts : List Expr} {kk : Nat}
theorem rep_src {K : PySem.W.Frag} {g : Gh} {H : Hp} {v : V} {d : Dat} {ds : List Dat} {firm : Bool} (r : if firm = true then Rep K g H v d else WRep K g H v d) (h : itemsD d = .ok ds) : ∃ S, srcOf v S ∧ S.cw K ds g H ∧ (firm = true → S.cf K ds g H) := by
  have rw : WRep K g H v d := by
    cases firm with
    | true => exact Rep.weak r
    | false => exact r
  cases d with
  | list es =>
    cases h
    obtain ⟨l, us, rfl, h1, h2⟩ := wr_lst rw
    refine ⟨.lst l, .inl ⟨l, rfl, rfl, .inl rfl⟩, ⟨us, h1, h2⟩, fun z => ?_⟩
    subst z
    have r : Rep K g H (.ref l) (.list ds) := r
    cases r with
    | lst h3 h4 => exact ⟨_, h3, h4⟩
  | tuple es =>
    cases h
    obtain ⟨l, us, rfl, h1, h2⟩ := wr_tup rw
    exact ⟨.tup l, .inl ⟨l, rfl, rfl, .inr rfl⟩, ⟨us, h1, h2⟩, fun _ => ⟨us, h1, h2⟩⟩
  | str x =>
    cases h
    cases wr_str rw
    exact ⟨.str x, .inr ⟨x, rfl, rfl⟩, ⟨_, rfl, chars_rep x⟩, fun _ => ⟨_, rfl, chars_rep x⟩⟩
  | _ => cases h
/-- an expression as firm as wanted -/
def tF (K : PySem.W.Frag) (cad : Cad) (W : WX) (firm : Bool) (f : QF) : TE := if firm = true then tQ K cad W f else tW K cad W f
def QF' (cad : Cad) (X : Cx) (W : WX) (firm : Bool) (e : Expr) (f : QF) : Prop := PE X e (tF X.K cad W firm f)
theorem tF.go {K : PySem.W.Frag} {firm : Bool} {g : Gh} {H : Hp} {σ : L2.St} {ρ : Env} {M : Mo} {f : QF} {k : Dat → Prop} {Q : VK} (I : SInv K cad σ H g ρ M) (h : (f M ρ).sat k (exE K cad W g H σ)) (hk : ∀ d v H', k d → Ex H H' → (if firm = true then Rep K g H' v d else WRep K g H' v d) → Q v H') : tF K cad W firm f σ H Q := by
  cases firm with
  | true => exact tQ.go I h hk
  | false => exact tW.go I h hk
theorem rf_ex {K : PySem.W.Frag} {firm : Bool} {g : Gh} {H H' : Hp} {v : V} {d : Dat} (e : Ex H H') (k : Kd g H) (r : if firm = true then Rep K g H v d else WRep K g H v d) : if firm = true then Rep K g H' v d else WRep K g H' v d := by
  cases firm with
  | true => exact Rep.ex e k r
  | false => exact WRep.ex e k r
theorem wf {K : PySem.W.Frag} {S : Src} {firm : Bool} {J : It} {ds es : List Dat} {R : It → Hp → Prop} {g : Gh} {H H1 : Hp} (h : ∀ J C H', Ex H H' → Wlk K J C ds → C g H' → (firm = true → Firm C) → R J H') (e1 : Ex H H1) (w : Wlk K J (S.cw K es) ds) (hw : S.cw K es g H1) (hf : firm = true → S.cf K es g H1) : R J H1 := by
  cases firm with
  | true => exact h J (S.cf K es) H1 e1 (w.of (fun _ _ z => Src.cf_cw z) (fun g H H' k c e => Src.cf_firm true g g H H' k c (Gr.ex e)) fun g g' H H' k c r e => Src.cf_firm true g g' H H' k c r) (hf rfl) fun _ => Src.cf_firm
  | false => exact h J (S.cw K es) H1 e1 w hw fun z => nomatch z
theorem qi_seq {firm : Bool} (ha : QF' cad X W firm a fa) : QI cad X W firm tg a (qItems fa) := by
  refine ⟨fun pins s σ H R I h => ?_⟩
  obtain ⟨g, ρ, M, SI, hs⟩ := h
  have hs := hs.bnd
  have fin : ∀ (S : Src) (x : V) (H1 : Hp) (ds : List Dat), (∀ J C H', Ex H H' → Wlk X.K J C ds → C g H' → (firm = true → Firm C) → R J H') → Ex H H1 → S.cw X.K ds g H1 → (firm = true → S.cf X.K ds g H1) → R (ItS X.K S) H1 := fun S x H1 ds h e1 hw hf => wf h e1 wlk_src hw hf
  cases hfa : fa M ρ with
  | bad => rw [hfa] at hs; exact False.elim hs
  | exc x =>
    rw [hfa] at hs
    exact (pi_list ha).run pins s σ H R I (tF.go (k := fun _ => False) SI (by rw [hfa]; exact hs) fun d v H' z => False.elim z)
  | ok d =>
    rw [hfa] at hs
    cases d with
    | list ds =>
      refine (pi_list ha).run pins s σ H R I (tF.go (k := fun z => z = .list ds) SI (by rw [hfa]; rfl) fun d v H' z e1 r => ?_)
      subst z
      obtain ⟨S, hS, hw, hf⟩ := rep_src (firm := firm) r (ds := ds) rfl
      have rw : WRep X.K g H' v (.list ds) := by
        cases firm with
        | true => exact Rep.weak r
        | false => exact r
      obtain ⟨l, us, rfl, h1, h2⟩ := wr_lst rw
      refine ⟨l, rfl, ⟨us, h1⟩, ?_⟩
      rcases hS with ⟨a', e, ha', hl | ht⟩ | ⟨y, _, e⟩
      · cases e
        subst hl
        exact fin (.lst l) (.ref l) H' ds hs e1 hw hf
      · cases e
        subst ht
        refine wf (S := .lst l) hs e1 (wlk_src (S := .lst l)) ⟨us, h1, h2⟩ fun z => ?_
        subst z
        have r : Rep X.K g H' (.ref l) (.list ds) := r
        cases r with
        | lst h3 h4 => exact ⟨_, h3, h4⟩
      · cases e
    | tuple ds =>
      refine (pi_tup ha).run pins s σ H R I (tF.go (k := fun z => z = .tuple ds) SI (by rw [hfa]; rfl) fun d v H' z e1 r => ?_)
      subst z
      have rw : WRep X.K g H' v (.tuple ds) := by
        cases firm with
        | true => exact Rep.weak r
        | false => exact r
      obtain ⟨l, us, rfl, h1, h2⟩ := wr_tup rw
      exact ⟨l, rfl, ⟨us, h1⟩, fin (.tup l) (.ref l) H' ds hs e1 ⟨us, h1, h2⟩ fun _ => ⟨us, h1, h2⟩⟩
    | str x =>
      refine (pi_str ha).run pins s σ H R I (tF.go (k := fun z => z = .str x) SI (by rw [hfa]; rfl) fun d v H' z e1 r => ?_)
      subst z
      have rw : WRep X.K g H' v (.str x) := by
        cases firm with
        | true => exact Rep.weak r
        | false => exact r
      cases wr_str rw
      exact ⟨x, rfl, fin (.str x) (.str x) H' _ hs e1 ⟨_, rfl, chars_rep x⟩ fun _ => ⟨_, rfl, chars_rep x⟩⟩
    | _ => exact False.elim hs
def qRange1 (a : QF) : IF := fun M ρ => (a M ρ).bind fun d => (intB d).bind fun n => Out.when (decide (n ≤ 100000 ∧ -100000 ≤ n)) (.ok (rangeD 0 n.toNat))
def qRange2 (a b : QF) : IF := fun M ρ => (a M ρ).bind fun d => (b M ρ).bind fun e => (intB d).bind fun lo => (intB e).bind fun n => Out.when (decide (n ≤ 100000 ∧ -100000 ≤ n ∧ lo ≤ 100000 ∧ -100000 ≤ lo)) (.ok (rangeD lo (n - lo).toNat))
def qEnum (k₀ : Int) (a : QF) : IF := fun M ρ => (a M ρ).bind fun d => (itemsD d).bind fun ds => .ok (enumD k₀ ds)
def qZip (a b : QF) : IF := fun M ρ => (a M ρ).bind fun d => (b M ρ).bind fun e => (itemsD d).bind fun ds => (itemsD e).bind fun es => .ok (zipD ds es)
theorem qi_range1 {firm : Bool} (hg : Gl X "range") (hm : X.mg "range" = none) (ha : QW cad X W a fa) (hs : nst a = true) : QI cad X W firm tg (.Call (.Name "range" p) [a] [] pos) (qRange1 fa) := by
  refine ⟨fun pins s σ H R I h => ?_⟩
  refine (pi_range1 hg hm (pa_cons ha pa_nil (star1 hs [])) (star1 hs [])).run pins s σ H R I ?_
  obtain ⟨g, ρ, M, SI, h⟩ := h
  refine tW.go SI h.bnd fun d v H1 h1 e1 r1 => ?_
  have h1 := h1.bnd
  unfold intB at h1
  split at h1
  · obtain ⟨hz, h1⟩ := h1.whn
    have hz := of_decide_eq_true hz
    cases wr_int r1
    exact ⟨_, rfl, by omega, by omega, h1 _ _ H1 e1 wlk_range trivial fun _ => fun _ _ _ _ _ _ _ _ => trivial⟩
  · exact False.elim h1
theorem qi_range2 {firm : Bool} (hg : Gl X "range") (hm : X.mg "range" = none) (ha : QW cad X W a fa) (hb : QW cad X W b fb) (hs : nst a = true) (hs2 : nst b = true) : QI cad X W firm tg (.Call (.Name "range" p) [a, b] [] pos) (qRange2 fa fb) := by
  refine ⟨fun pins s σ H R I h => ?_⟩
  refine (pi_range2 hg hm (pa_cons ha (pa_cons hb pa_nil (star1 hs2 [])) (star1 hs [b])) (by rw [star1 hs, star1 hs2]; rfl) (star1 hs2 [])).run pins s σ H R I ?_
  obtain ⟨g, ρ, M, SI, h⟩ := h
  refine tW.go SI h.bnd fun d v H1 h1 e1 r1 => ?_
  refine tW.go (SI.ex e1) (h1.bnd.mono (fun _ z => z) fun _ z => z.ex e1) fun d2 v2 H2 h2 e2 r2 => ?_
  have h2 := h2.bnd
  unfold intB at h2
  split at h2
  · have h2 := Out.sat.bnd h2
    split at h2
    · obtain ⟨hz, h2⟩ := Out.sat.whn h2
      have hz := of_decide_eq_true hz
      cases wr_int r1
      cases wr_int r2
      exact ⟨_, _, rfl, ⟨by omega, by omega, by omega, by omega⟩, h2 _ _ H2 (e1.trans e2) wlk_range trivial fun _ => fun _ _ _ _ _ _ _ _ => trivial⟩
    · exact False.elim h2
  · exact False.elim h2
theorem en_go {firm : Bool} {k₀ : Int} (σ : L2.St) (H : Hp) (R : It → Hp → Prop) (h : tI X.K cad W firm (qEnum k₀ fa) σ H R) : iEn X.K (tCons (tF X.K cad W firm fa) tNil) k₀ σ H R := by
  obtain ⟨g, ρ, M, SI, h⟩ := h
  refine tF.go SI h.bnd fun d v H1 h1 e1 r1 => ?_
  cases hd : itemsD d with
  | bad => rw [hd] at h1; exact False.elim h1
  | exc x => cases d <;> cases hd
  | ok ds =>
    rw [hd] at h1
    obtain ⟨S, hS, hw, hf⟩ := rep_src r1 hd
    exact ⟨v, S, _, rfl, hS, hw.choose_spec.1, wf h1 e1 wlk_enum hw hf⟩
theorem qi_enum {firm : Bool} (hg : Gl X "enumerate") (hm : X.mg "enumerate" = none) (ha : QF' cad X W firm a fa) (hs : nst a = true) : QI cad X W firm (.Tuple elts kk tpos) (.Call (.Name "enumerate" p) [a] [] pos) (qEnum 0 fa) :=
  ⟨fun pins s σ H R I h => (pi_en hg hm (pa_cons ha pa_nil (star1 hs [])) hs).run pins s σ H R I (en_go σ H R h)⟩
theorem qi_enum1 {firm : Bool} {k₀ : Int} {j : Nat} {kp kp2 : Pos} (hk0 : -(2 ^ 63) ≤ k₀) (hk1 : k₀ < 2 ^ 63) (hg : Gl X "enumerate") (hm : X.mg "enumerate" = none) (ha : QF' cad X W firm a fa) (hs : nst a = true) : QI cad X W firm (.Tuple elts kk tpos) (.Call (.Name "enumerate" p) [a] [⟨some "start", .Constant (.int k₀) j kp, kp2⟩] pos) (qEnum k₀ fa) :=
  ⟨fun pins s σ H R I h => (pi_en1 hk0 hk1 hg hm (pa_cons ha pa_nil (star1 hs [])) hs).run pins s σ H R I (en_go σ H R h)⟩
theorem qi_zip {firm : Bool} (hg : Gl X "zip") (hm : X.mg "zip" = none) (ha : QF' cad X W firm a fa) (hb : QF' cad X W firm b fb) (hs : nst a = true) (hs2 : nst b = true) : QI cad X W firm (.Tuple elts kk tpos) (.Call (.Name "zip" p) [a, b] [] pos) (qZip fa fb) := by
  refine ⟨fun pins s σ H R I h => (pi_zp hg hm (pa_cons ha (pa_cons hb pa_nil (star1 hs2 [])) (star1 hs [b])) hs hs2).run pins s σ H R I ?_⟩
  obtain ⟨g, ρ, M, SI, h⟩ := h
  refine tF.go SI h.bnd fun d v H1 h1 e1 r1 => ?_
  refine tF.go (SI.ex e1) (h1.bnd.mono (fun _ z => z) fun _ z => z.ex e1) fun d2 v2 H2 h2 e2 r2 => ?_
  cases hd : itemsD d with
  | bad => rw [hd] at h2; exact False.elim h2
  | exc x => cases d <;> cases hd
  | ok ds =>
    cases he : itemsD d2 with
    | bad => rw [hd, he] at h2; exact False.elim h2
    | exc x => cases d2 <;> cases he
    | ok es =>
      rw [hd, he] at h2
      obtain ⟨S, hS, hw, hf⟩ := rep_src (rf_ex e2 (SI.ex e1).kd r1) hd
      obtain ⟨T, hT, hw2, hf2⟩ := rep_src r2 he
      refine ⟨v, v2, S, T, _, _, rfl, hS, hT, hw.choose_spec.1, hw2.choose_spec.1, ?_⟩
      cases firm with
      | true => exact h2 _ (fun g H => S.cf X.K ds g H ∧ T.cf X.K es g H) H2 (e1.trans e2) (wlk_zip.of (fun _ _ z => ⟨Src.cf_cw z.1, Src.cf_cw z.2⟩) (fun g H H' k c e => ⟨Src.cf_firm true g g H H' k c.1 (Gr.ex e), Src.cf_firm true g g H H' k c.2 (Gr.ex e)⟩) fun g g' H H' k c r e => ⟨Src.cf_firm true g g' H H' k c.1 r, Src.cf_firm true g g' H H' k c.2 r⟩) ⟨hf rfl, hf2 rfl⟩ fun _ => fun q g g' H H' k c r => ⟨Src.cf_firm q g g' H H' k c.1 r, Src.cf_firm q g g' H H' k c.2 r⟩
      | false => exact h2 _ _ H2 (e1.trans e2) wlk_zip ⟨hw, hw2⟩ fun z => nomatch z
end
end Rf
/-! # R8: list comprehensions -/
namespace Rf
open PySem PySem.Spec PyProof.Rows L2 Evl

def WF : WX := fun _ _ _ _ => False
def noX {α : Type} : Out α → Out α
  | .ok a => .ok a
  | _ => .bad
@[simp] theorem noX_ok {α : Type} (a : α) : noX (.ok a) = .ok a := rfl
theorem noX_sat {α : Type} {o : Out α} {P : α → Prop} {E E' : Exn → Prop} (h : (noX o).sat P E) : o.sat P E' := by
  cases o
  · exact h
  · exact False.elim h
  · exact h
def compD (tg : TgF) (tt : QT) (te : QF) (M : Mo) (ρ : Env) : List Dat → Out (List Dat)
  | [] => .ok []
  | d :: ds => match tg d ρ with
    | none => .bad
    | some ρ1 => (noX (tt M ρ1)).bind fun b => if b = true then (noX (te M ρ1)).bind fun y => (compD tg tt te M ρ ds).bind fun r => .ok (y :: r) else compD tg tt te M ρ ds
def qComp (it : IF) (tg : TgF) (vs : List Nat) (tt : QT) (te : QF) : QF := fun M ρ => (it M ρ).bind fun ds => Out.when (decide (ds.length ≤ 50000)) ((compD tg tt te M (wipeE ρ vs) ds).bind fun r => .ok (.list r))
def qtYes : QT := fun _ _ => .ok true
/-- a new list -/
def tFr (K : PySem.W.Frag) (cad : Cad) (W : WX) (f : IF) : TE := fun σ H Q => ∃ g ρ M, SInv K cad σ H g ρ M ∧ (f M ρ).sat (fun xs => ∀ l us H', H l = none → Ex H H' → H' l = some (.lst us) → Reps K (g.add l) H' us xs → Q (.ref l) H') (exE K cad W g H σ)
def qCompL (it : IF) (tg : TgF) (vs : List Nat) (tt : QT) (te : QF) : IF := fun M ρ => (it M ρ).bind fun ds => Out.when (decide (ds.length ≤ 50000)) (compD tg tt te M (wipeE ρ vs) ds)
section
variable {K : PySem.W.Frag} {cad : Cad} {W : WX}
theorem reps_upd {g : Gh} {H : Hp} {D : Addr} {o o' : HO} {vs : List V} {ds : List Dat} (k : Kd g H) (h : H D = some o) (l : g.Lo D) (r : Reps K g H vs ds) : Reps K g (upd H D o') vs ds := r.gr (Gr.upd (q := true) k h (.inr l)) k
theorem rep_upd {g : Gh} {H : Hp} {D : Addr} {o o' : HO} {v : V} {d : Dat} (k : Kd g H) (h : H D = some o) (l : g.Lo D) (r : Rep K g H v d) : Rep K g (upd H D o') v d := r.gr (Gr.upd (q := true) k h (.inr l)) k
theorem compD_noexc {tg : TgF} {tt : QT} {te : QF} {M : Mo} {ρ : Env} : ∀ {ds : List Dat} {x : Exn}, compD tg tt te M ρ ds ≠ .exc x
  | [], _, h => nomatch h
  | d :: ds, x, h => by
    rw [compD] at h
    split at h
    · cases h
    · next ρ1 e =>
      cases h1 : tt M ρ1 with
      | bad => rw [h1] at h; cases h
      | exc y => rw [h1] at h; cases h
      | ok b =>
        rw [h1] at h
        cases b with
        | false => exact compD_noexc h
        | true =>
          have h : ((noX (te M ρ1)).bind fun y => (compD tg tt te M ρ ds).bind fun r => Out.ok (y :: r)) = .exc x := h
          cases h2 : te M ρ1 with
          | bad => rw [h2] at h; cases h
          | exc y => rw [h2] at h; cases h
          | ok y =>
            rw [h2] at h
            cases h3 : compD tg tt te M ρ ds with
            | bad => rw [h3] at h; cases h
            | exc z => exact compD_noexc h3
            | ok r => rw [h3] at h; cases h
theorem wipe_get (σ : L2.St) (i : Nat) : ∀ vs : List Nat, (L2.wipe σ vs)[i]? = if i ∈ vs then (σ[i]?).map (fun _ => none) else σ[i]?
  | [] => by simp [L2.wipe]
  | v :: vs => by
    show ((L2.wipe σ vs).set v none)[i]? = _
    by_cases h : v = i
    · subst h
      by_cases hl : v < σ.length
      · rw [List.getElem?_set_self (by rw [wipe_length]; exact hl), if_pos List.mem_cons_self, List.getElem?_eq_getElem hl]
        rfl
      · have h1 : σ[v]? = none := List.getElem?_eq_none_iff.mpr (by omega)
        rw [if_pos List.mem_cons_self, h1, List.getElem?_eq_none_iff.mpr (by rw [List.length_set, wipe_length]; omega)]
        rfl
    · rw [List.getElem?_set_ne h, wipe_get σ i vs]
      have : i ∈ v :: vs ↔ i ∈ vs := ⟨fun z => by
        rcases List.mem_cons.mp z with z | z
        · exact absurd z.symm h
        · exact z, List.mem_cons_of_mem _⟩
      simp only [this]
theorem wipe_idem (σ : L2.St) (vs : List Nat) : L2.wipe (L2.wipe σ vs) vs = L2.wipe σ vs := by
  apply List.ext_getElem?
  intro i
  rw [wipe_get (L2.wipe σ vs) i vs, wipe_get σ i vs]
  split
  · cases σ[i]? <;> rfl
  · rfl
theorem lc_go0 {it : IF} {tg : TgF} {js vs : List Nat} {tt : QT} {te : QF} (hj : ∀ j ∈ js, j ∈ vs) (σ : L2.St) (H : Hp) (Q : VK) (h : tFr K cad W (qCompL it tg vs tt te) σ H Q) :
    tLc (tI K cad W false it) (tGD K cad js tg) (tQT K cad WF tt) (tQ K cad WF te) vs σ H Q := by
  obtain ⟨g, ρ, M, I, h⟩ := h
  refine ⟨g, ρ, M, I, h.bnd.mono (fun ds hk J C H1 e1 w c _ D nD => ?_) fun _ z => z⟩
  obtain ⟨hz, hk⟩ := hk.whn
  have hlen := of_decide_eq_true hz
  obtain ⟨total, htot, hQ⟩ : ∃ total, compD tg tt te M (wipeE ρ vs) ds = .ok total ∧ ∀ l us H', H l = none → Ex H H' → H' l = some (.lst us) → Reps K (g.add l) H' us total → Q (.ref l) H' := by
    cases hc : compD tg tt te M (wipeE ρ vs) ds with
    | bad => rw [hc] at hk; exact False.elim hk
    | exc x => exact absurd hc compD_noexc
    | ok total =>
      rw [hc] at hk
      exact ⟨total, rfl, hk⟩
  have I1 := (I.ex e1).wipe vs
  have kD : ∀ {Ha : Hp} {us : List V}, Ex H1 Ha → Ha D = some (.lst us) → SInv K cad (L2.wipe σ vs) Ha (g.add D) (wipeE ρ vs) M := fun ea hu => I1.add nD ea hu trivial
  let Pv : Nat → Hp → Prop := fun i Ha => Ex H1 Ha ∧ i ≤ ds.length ∧ ∃ us ys, Ha D = some (.lst us) ∧ Reps K (g.add D) Ha us ys ∧ ys.length ≤ i ∧ (compD tg tt te M (wipeE ρ vs) (ds.drop i)).sat (fun r => total = ys ++ r) fun _ => False
  refine ⟨fun i m Ha => m = ds.length - i ∧ Pv i Ha, ⟨ds.length, rfl, Ex.new nD, Nat.zero_le _, [], [], upd_same, .nil, Nat.le_refl _, ?_⟩, ?_⟩
  · rw [List.drop_zero, htot]
    rfl
  · rintro i m Ha ⟨rfl, ea, hi, us, ys, hu, hU, hy, hs⟩
    have Ia := kD ea hu
    have Ca := w.add g (g.add D) H1 Ha (I.kd.ex e1) c (Gh.add_gr nD ea) ea
    by_cases hlt : i < ds.length
    · refine .inr ⟨w.go _ i Ha Ca hlt, Pv (i + 1), fun H' p => ⟨ds.length - (i + 1), by omega, rfl, p⟩, fun x H' y => ?_⟩
      have hd : ds[i]? = some ds[i] := List.getElem?_eq_getElem hlt
      obtain ⟨e2, rx⟩ := w.yld _ i Ha x H' _ Ia.kd Ca hd y
      have I2 := Ia.ex e2
      rw [List.drop_eq_getElem_cons hlt, compD] at hs
      split at hs
      · exact False.elim hs
      · next ρ1 he =>
        refine ⟨g.add D, _, M, _, ρ1, I2, rx, he, fun ws I3 => ⟨sets_wipe js ws _ vs hj |>.trans (wipe_idem σ vs), ?_⟩⟩
        refine tQT.go I3 (noX_sat hs.bnd) fun b H3 hb e3 => ?_
        have I4 := I3.ex e3
        have hu3 := e3 _ _ (e2 _ _ hu)
        have hU3 := (hU.ex e2 Ia.kd).ex e3 I2.kd
        cases b with
        | false =>
          have hb : (compD tg tt te M (wipeE ρ vs) (ds.drop (i + 1))).sat (fun r => total = ys ++ r) fun _ => False := hb
          exact ⟨(ea.trans e2).trans e3, hlt, us, ys, hu3, hU3, Nat.le_succ_of_le hy, hb⟩
        | true =>
          have hb : ((noX (te M ρ1)).bind fun y => (compD tg tt te M (wipeE ρ vs) (ds.drop (i + 1))).bind fun r => Out.ok (y :: r)).sat (fun r => total = ys ++ r) fun _ => False := hb
          refine tQ.go I4 (noX_sat hb.bnd) fun y v H4 hyv e4 ry => ?_
          have I5 := I4.ex e4
          have hu4 := e4 _ _ hu3
          have hU4 := hU3.ex e4 I4.kd
          have lD : (g.add D).Lo D := .inr rfl
          refine ⟨us, hu4, sz_lt (by rw [hU.length]; omega), Ex.mut (((ea.trans e2).trans e3).trans e4) nD, hlt, us ++ [v], ys ++ [y], upd_same, ?_, by simp; omega, hyv.bnd.mono (fun r hr => ?_) fun _ z => z⟩
          · exact reps_upd I5.kd hu4 lD (hU4.append (.cons ry .nil))
          · have hr : total = ys ++ y :: r := hr
            rw [hr]
            simp
    · have e : i = ds.length := by omega
      refine .inl ⟨w.stop _ i Ha Ca e, ?_⟩
      rw [e, List.drop_length] at hs
      have hs : total = ys ++ [] := hs
      rw [List.append_nil] at hs
      subst hs
      exact hQ D us Ha (ex_dom e1 D nD) (e1.trans ea) hu hU
theorem lc_go {it : IF} {tg : TgF} {js vs : List Nat} {tt : QT} {te : QF} (hj : ∀ j ∈ js, j ∈ vs) (σ : L2.St) (H : Hp) (Q : VK) (h : tQ K cad W (qComp it tg vs tt te) σ H Q) :
    tLc (tI K cad W false it) (tGD K cad js tg) (tQT K cad WF tt) (tQ K cad WF te) vs σ H Q := by
  obtain ⟨g, ρ, M, I, h⟩ := h
  refine lc_go0 hj σ H Q ⟨g, ρ, M, I, ?_⟩
  unfold qCompL
  unfold qComp at h
  cases hi : it M ρ with
  | bad => rw [hi] at h; exact False.elim h
  | exc x => rw [hi] at h; exact h
  | ok ds =>
    rw [hi] at h
    obtain ⟨hz, h⟩ := Out.sat.whn h
    have h := h.bnd
    show (Out.when (decide (ds.length ≤ 50000)) (compD tg tt te M (wipeE ρ vs) ds)).sat _ _
    rw [hz, Out.when_true]
    exact h.mono (fun xs z l us H' n e hl r => z _ H' e (.lst (.inl ⟨.inl hl, I.kd.fresh n⟩) (Reps.less (g := g.add l) (g' := g) rfl (fun a z => z.elim .inl fun z => .inr (z.elim .inl fun z => .inr (.inl z))) r))) fun _ z => z
end
/-! the rules -/
section
variable {X : Cx} {cad : Cad} {W : WX} {elt tg iter : Expr} {pos p tpos : Pos}
theorem takesF {X : Cx} : Takes X WF := fun u s' ⟨a, B, sI, pins, σ, H, cls, d, e, I, nb, up, sky, na, os, ag, w⟩ => False.elim w
theorem qe_lc {scope : Scope} {own : List (Str × Nat)} {it : IF} {tgf : TgF} {js : List Nat} {tt : QT} {te : QF} {ifs : List Expr} (hc : X.calm = true) (hN : X.N.Nodup) (hi : QI cad X W false tg iter it) (ok : blkC X.N X.env.scope scope own = true) (hj : ∀ j ∈ js, j ∈ own.map (·.2))
    (hg : ∀ (s : Shared) (H : Hp) (C : Addr) (cl : List (Str × Addr)) (fp : List Addr), QG cad (X.blk s H scope (compEnvC scope cl C X.env) fp) tg js tgf)
    (ht : ∀ (s : Shared) (H : Hp) (C : Addr) (cl : List (Str × Addr)) (fp : List Addr), PTs (X.blk s H scope (compEnvC scope cl C X.env) fp) ifs (tQT X.K cad WF tt))
    (he : ∀ (s : Shared) (H : Hp) (C : Addr) (cl : List (Str × Addr)) (fp : List Addr), QE cad (X.blk s H scope (compEnvC scope cl C X.env) fp) WF elt te) (hs : ∀ x, foldedSetIterable iter X.env x = pure x) :
    QE cad X W (.ListComp elt [⟨tg, iter, ifs, 0⟩] scope pos) (qComp it tgf (own.map (·.2)) tt te) :=
  PE.weak (pe_lc (g := tGD X.K cad js tgf) (tt := tQT X.K cad WF tt) (te := tQ X.K cad WF te) hc hN hi (blkOk_by ok) (fun s H C cl fp => hg s H C cl fp) ht (fun s H C cl fp => he s H C cl fp) hs) fun σ H Q h => lc_go hj σ H Q h
/-- .. as a list of one's own -/
theorem fe_lc {scope : Scope} {own : List (Str × Nat)} {it : IF} {tgf : TgF} {js : List Nat} {tt : QT} {te : QF} {ifs : List Expr} (hc : X.calm = true) (hN : X.N.Nodup) (hi : QI cad X W false tg iter it) (ok : blkC X.N X.env.scope scope own = true) (hj : ∀ j ∈ js, j ∈ own.map (·.2))
    (hg : ∀ (s : Shared) (H : Hp) (C : Addr) (cl : List (Str × Addr)) (fp : List Addr), QG cad (X.blk s H scope (compEnvC scope cl C X.env) fp) tg js tgf)
    (ht : ∀ (s : Shared) (H : Hp) (C : Addr) (cl : List (Str × Addr)) (fp : List Addr), PTs (X.blk s H scope (compEnvC scope cl C X.env) fp) ifs (tQT X.K cad WF tt))
    (he : ∀ (s : Shared) (H : Hp) (C : Addr) (cl : List (Str × Addr)) (fp : List Addr), QE cad (X.blk s H scope (compEnvC scope cl C X.env) fp) WF elt te) (hs : ∀ x, foldedSetIterable iter X.env x = pure x) :
    PE X (.ListComp elt [⟨tg, iter, ifs, 0⟩] scope pos) (tFr X.K cad W (qCompL it tgf (own.map (·.2)) tt te)) :=
  PE.weak (pe_lc (g := tGD X.K cad js tgf) (tt := tQT X.K cad WF tt) (te := tQ X.K cad WF te) hc hN hi (blkOk_by ok) (fun s H C cl fp => hg s H C cl fp) ht (fun s H C cl fp => he s H C cl fp) hs) fun σ H Q h => lc_go0 hj σ H Q h
end
end Rf
/-! # R9: expressions that may change instances; statements -/
namespace Rf
open PySem PySem.Spec PyProof.Rows L2 Evl

def GOut.sat {α : Type} (o : GOut α) (P : α → Mo → Prop) (E : Exn → Mo → Prop) : Prop :=
  match o with
  | .ok a M => P a M
  | .exc x M => E x M
  | .bad => False
def GOut.bind {α β : Type} (o : GOut α) (k : α → Mo → GOut β) : GOut β :=
  match o with
  | .ok a M => k a M
  | .exc x M => .exc x M
  | .bad => .bad
@[simp] theorem GOut.bind_ok {α β : Type} (a : α) (M : Mo) (k : α → Mo → GOut β) : (GOut.ok a M).bind k = k a M := rfl
@[simp] theorem GOut.bind_exc {α β : Type} (x : Exn) (M : Mo) (k : α → Mo → GOut β) : (GOut.exc x M : GOut α).bind k = .exc x M := rfl
@[simp] theorem GOut.bind_bad {α β : Type} (k : α → Mo → GOut β) : (GOut.bad : GOut α).bind k = .bad := rfl
theorem GOut.sat.bnd {α β : Type} {o : GOut α} {k : α → Mo → GOut β} {P : β → Mo → Prop} {E : Exn → Mo → Prop} (h : (o.bind k).sat P E) : o.sat (fun a M => (k a M).sat P E) E := by
  cases o <;> exact h
theorem GOut.sat.mono {α : Type} {o : GOut α} {P P' : α → Mo → Prop} {E E' : Exn → Mo → Prop} (h : o.sat P E) (hp : ∀ a M, P a M → P' a M) (he : ∀ x M, E x M → E' x M) : o.sat P' E' := by
  cases o
  · exact hp _ _ h
  · exact he _ _ h
  · exact h
/-- quiet ones among them -/
def Out.at {α : Type} (o : Out α) (M : Mo) : GOut α :=
  match o with
  | .ok a => .ok a M
  | .exc x => .exc x M
  | .bad => .bad
@[simp] theorem Out.at_ok {α : Type} (a : α) (M : Mo) : (Out.ok a).at M = .ok a M := rfl
@[simp] theorem Out.at_exc {α : Type} (x : Exn) (M : Mo) : (Out.exc x : Out α).at M = .exc x M := rfl
@[simp] theorem Out.at_bad {α : Type} (M : Mo) : (Out.bad : Out α).at M = .bad := rfl
theorem Out.sat_at {α : Type} {o : Out α} {M : Mo} {P : α → Mo → Prop} {E : Exn → Mo → Prop} (h : (o.at M).sat P E) : o.sat (fun a => P a M) fun x => E x M := by
  cases o <;> exact h
abbrev GF := Mo → Env → GOut Dat
abbrev GT := Mo → Env → GOut Bool
def SOut.sat (o : SOut) (nx : Env → Mo → Prop) (rt : Dat → Mo → Prop) (bk ct : Env → Mo → Prop) (ex : Exn → Env → Mo → Prop) : Prop :=
  match o with
  | .next ρ M => nx ρ M
  | .ret d M => rt d M
  | .brk ρ M => bk ρ M
  | .cont ρ M => ct ρ M
  | .exc x ρ M => ex x ρ M
  | .bad => False
theorem SOut.sat.mono {o : SOut} {nx nx' : Env → Mo → Prop} {rt rt' : Dat → Mo → Prop} {bk bk' ct ct' : Env → Mo → Prop} {ex ex' : Exn → Env → Mo → Prop} (h : o.sat nx rt bk ct ex) (h1 : ∀ ρ M, nx ρ M → nx' ρ M) (h2 : ∀ d M, rt d M → rt' d M) (h3 : ∀ ρ M, bk ρ M → bk' ρ M) (h4 : ∀ ρ M, ct ρ M → ct' ρ M) (h5 : ∀ x ρ M, ex x ρ M → ex' x ρ M) : o.sat nx' rt' bk' ct' ex' := by
  cases o
  · exact h1 _ _ h
  · exact h2 _ _ h
  · exact h3 _ _ h
  · exact h4 _ _ h
  · exact h5 _ _ _ h
  · exact h
abbrev SF := Mo → Env → SOut
def Gh.fr (g : Gh) : Gh := { g with Lo := fun _ => False }
section
variable (K : PySem.W.Frag) (cad : Cad) (W : WX) (q : Bool)
def gE (g : Gh) (H : Hp) (σ : L2.St) (ρ : Env) (x : Exn) (M' : Mo) : Prop := ∀ H' g' c dd, Gr q g g' H H' → SInv K cad σ H' g' ρ M' → XRep K cad g' H' x c dd → W c dd σ H'
def tE (f : GF) : TE := fun σ H Q => ∃ g ρ M, SInv K cad σ H g ρ M ∧ (f M ρ).sat (fun d M' => ∀ v H' g', Gr q g g' H H' → SInv K cad σ H' g' ρ M' → Rep K g' H' v d → Q v H') (gE K cad W q g H σ ρ)
def tET (f : GT) : TT := fun σ H Q => ∃ g ρ M, SInv K cad σ H g ρ M ∧ (f M ρ).sat (fun b M' => ∀ H' g', Gr q g g' H H' → SInv K cad σ H' g' ρ M' → Q b H') (gE K cad W q g H σ ρ)
/-- what is wanted behind a statement that began at g, H -/
def sN (k : L2.St → Hp → Prop) (g : Gh) (H : Hp) (ρ' : Env) (M' : Mo) : Prop := ∀ σ' H' g', Gr q g g' H H' → SInv K cad σ' H' g' ρ' M' → k σ' H'
def sR (k : VK) (g : Gh) (H : Hp) (d : Dat) (M' : Mo) : Prop := ∀ v H' g', Gr q g g' H H' → Kd g'.fr H' → WOk K cad g'.fr H' M' → Rep K g'.fr H' v d → k v H'
def sX (g : Gh) (H : Hp) (x : Exn) (ρ' : Env) (M' : Mo) : Prop := ∀ σ' H' g' c dd, Gr q g g' H H' → SInv K cad σ' H' g' ρ' M' → XRep K cad g'.fr H' x c dd → W c dd σ' H'
def tS (f : SF) : TS := fun D σ H => ∃ g ρ M, SInv K cad σ H g ρ M ∧ (f M ρ).sat (sN K cad q D.nx g H) (sR K cad q D.rt g H) (sN K cad q D.bk g H) (sN K cad q D.ct g H) (sX K cad W q g H)
end
section
variable {K : PySem.W.Frag} {cad : Cad} {W : WX} {q : Bool} {g g1 : Gh} {H H1 : Hp} {σ : L2.St} {ρ : Env} {M : Mo}
theorem gE.gr {x : Exn} {M' : Mo} (r : Gr q g g1 H H1) (h : gE K cad W q g H σ ρ x M') : gE K cad W q g1 H1 σ ρ x M' := fun H' g' c dd r' I z => h H' g' c dd (r.trans r') I z
theorem sN.gr {k : L2.St → Hp → Prop} {ρ' : Env} {M' : Mo} (r : Gr q g g1 H H1) (h : sN K cad q k g H ρ' M') : sN K cad q k g1 H1 ρ' M' := fun σ' H' g' r' I => h σ' H' g' (r.trans r') I
theorem sR.gr {k : VK} {d : Dat} {M' : Mo} (r : Gr q g g1 H H1) (h : sR K cad q k g H d M') : sR K cad q k g1 H1 d M' := fun v H' g' r' I z y => h v H' g' (r.trans r') I z y
theorem sX.gr {x : Exn} {ρ' : Env} {M' : Mo} (r : Gr q g g1 H H1) (h : sX K cad W q g H x ρ' M') : sX K cad W q g1 H1 x ρ' M' := fun σ' H' g' c dd r' I z => h σ' H' g' c dd (r.trans r') I z
theorem tE.go {f : GF} {k : Dat → Mo → Prop} {Q : VK} (I : SInv K cad σ H g ρ M) (h : (f M ρ).sat k (gE K cad W q g H σ ρ)) (hk : ∀ d M' v H' g', k d M' → Gr q g g' H H' → SInv K cad σ H' g' ρ M' → Rep K g' H' v d → Q v H') : tE K cad W q f σ H Q :=
  ⟨g, ρ, M, I, h.mono (fun d M' hd v H' g' e I' r => hk d M' v H' g' hd e I' r) fun _ _ z => z⟩
theorem tET.go {f : GT} {k : Bool → Mo → Prop} {Q : Bool → Hp → Prop} (I : SInv K cad σ H g ρ M) (h : (f M ρ).sat k (gE K cad W q g H σ ρ)) (hk : ∀ b M' H' g', k b M' → Gr q g g' H H' → SInv K cad σ H' g' ρ M' → Q b H') : tET K cad W q f σ H Q :=
  ⟨g, ρ, M, I, h.mono (fun d M' hd H' g' e I' => hk d M' H' g' hd e I') fun _ _ z => z⟩
/-- from a statement's start to a later moment -/
theorem tS.go {f : SF} {D : Ends} (I : SInv K cad σ H1 g1 ρ M) (r : Gr q g g1 H H1) (h : (f M ρ).sat (sN K cad q D.nx g H) (sR K cad q D.rt g H) (sN K cad q D.bk g H) (sN K cad q D.ct g H) (sX K cad W q g H)) : tS K cad W q f D σ H1 :=
  ⟨g1, ρ, M, I, h.mono (fun _ _ z => z.gr r) (fun _ _ z => z.gr r) (fun _ _ z => z.gr r) (fun _ _ z => z.gr r) (fun _ _ _ z => z.gr r)⟩
theorem PsRep.less {g' : Gh} {fs : List (Str × V)} {gs : List (Str × Dat)} (e : g'.tbl = g.tbl) (n : ∀ a, g'.A a → g.A a) (h : PsRep K g H fs gs) : PsRep K g' H fs gs := by
  induction h with
  | nil => exact .nil
  | cons r _ ih => exact .cons (r.less e n) ih
theorem XRep.less {g' : Gh} {x : Exn} {c : Value} {dd : Option Addr} (e : g'.tbl = g.tbl) (n : ∀ a, g'.A a → g.A a) (h : XRep K cad g H x c dd) : XRep K cad g' H x c dd := by
  obtain ⟨C, h1, h2, h3⟩ := h
  refine ⟨C, h1, h2, h3.imp id fun ⟨a, fs, e1, e2, e3⟩ => ⟨a, fs, e1, e2, e3.less e n⟩⟩
theorem fr_less (g : Gh) : ∀ a, g.fr.A a → g.A a := fun a z => z.elim .inl fun z => .inr (z.elim .inl fun z => False.elim z)
theorem Rep.fr {v : V} {d : Dat} (h : Rep K g H v d) : Rep K g.fr H v d := Rep.less (g := g) (g' := g.fr) rfl (fr_less g) h
theorem Reps.fr {v : List V} {d : List Dat} (h : Reps K g H v d) : Reps K g.fr H v d := Reps.less (g := g) (g' := g.fr) rfl (fr_less g) h
theorem XRep.fr {x : Exn} {c : Value} {dd : Option Addr} (h : XRep K cad g H x c dd) : XRep K cad g.fr H x c dd := XRep.less (g := g) (g' := g.fr) rfl (fr_less g) h
end
def GE (cad : Cad) (X : Cx) (W : WX) (q : Bool) (e : Expr) (f : GF) : Prop := PE X e (tE X.K cad W q f)
def GTe (cad : Cad) (X : Cx) (W : WX) (q : Bool) (e : Expr) (f : GT) : Prop := PT X e (tET X.K cad W q f)
def SE (cad : Cad) (X : Cx) (W : WX) (q : Bool) (s : Stmt) (f : SF) : Prop := PS X s (tS X.K cad W q f)
def SEs (cad : Cad) (X : Cx) (W : WX) (q : Bool) (s : List Stmt) (f : SF) : Prop := PSs X s (tS X.K cad W q f)
theorem PS.weak {X : Cx} {e : Stmt} {t t' : TS} (h : PS X e t) (k : ∀ D σ H, t' D σ H → t D σ H) : PS X e t' := ⟨fun pins s σ H D I z => h.run pins s σ H D I (k D σ H z)⟩
theorem PSs.weak {X : Cx} {e : List Stmt} {t t' : TS} (h : PSs X e t) (k : ∀ D σ H, t' D σ H → t D σ H) : PSs X e t' := ⟨fun pins s σ H D I z => h.run pins s σ H D I (k D σ H z)⟩
/-- a quiet expression as one that may change instances -/
def gOf (f : QF) : GF := fun M ρ => (f M ρ).at M
def gtOf (f : QT) : GT := fun M ρ => (f M ρ).at M
section
variable {X : Cx} {cad : Cad} {W : WX} {q : Bool} {a b e : Expr} {pos : Pos}
theorem ge_of {f : QF} (h : QE cad X W e f) : GE cad X W q e (gOf f) := PE.weak h fun σ H Q ⟨g, ρ, M, I, z⟩ =>
  ⟨g, ρ, M, I, (Out.sat_at z).mono (fun d k v H' e r => k v H' g (Gr.ex e) (I.ex e) r) fun x k H' c dd e r => k H' g c dd (Gr.ex e) (I.ex e) r⟩
theorem gt_of {f : QT} (h : QTe cad X W e f) : GTe cad X W q e (gtOf f) := PT.weak h fun σ H Q ⟨g, ρ, M, I, z⟩ =>
  ⟨g, ρ, M, I, (Out.sat_at z).mono (fun d k H' e => k H' g (Gr.ex e) (I.ex e)) fun x k H' c dd e r => k H' g c dd (Gr.ex e) (I.ex e) r⟩

/-! ### blocks -/
def sSkip : SF := fun M ρ => .next ρ M
def sSeq (f k : SF) : SF := fun M ρ => match f M ρ with
  | .next ρ' M' => k M' ρ'
  | o => o
theorem se_nil : SEs cad X W q [] sSkip := PSs.weak pss_nil fun D σ H ⟨g, ρ, M, I, z⟩ => z σ H g .refl I
theorem se_one {s : Stmt} {f : SF} (h : SE cad X W q s f) : SEs cad X W q [s] f := pss_one h
theorem se_cons {s : Stmt} {ss : List Stmt} {f k : SF} (h : SE cad X W q s f) (hs : SEs cad X W q ss k) : SEs cad X W q (s :: ss) (sSeq f k) := by
  refine PSs.weak (pss_cons h hs) fun D σ H ⟨g, ρ, M, I, z⟩ => ?_
  refine ⟨g, ρ, M, I, ?_⟩
  unfold sSeq at z
  cases hf : f M ρ with
  | next ρ' M' =>
    rw [hf] at z
    exact fun σ' H' g' r I' => tS.go I' r z
  | ret d M' => rw [hf] at z; exact z
  | brk ρ' M' => rw [hf] at z; exact z
  | cont ρ' M' => rw [hf] at z; exact z
  | exc x ρ' M' => rw [hf] at z; exact z
  | bad => rw [hf] at z; exact z
/-- an outcome of an expression, what follows -/
def GOut.then {α : Type} (o : GOut α) (ρ : Env) (k : α → Mo → SOut) : SOut :=
  match o with
  | .ok a M => k a M
  | .exc x M => .exc x ρ M
  | .bad => .bad
@[simp] theorem GOut.then_ok {α : Type} (a : α) (M : Mo) (ρ : Env) (k : α → Mo → SOut) : (GOut.ok a M).then ρ k = k a M := rfl
@[simp] theorem GOut.then_exc {α : Type} (x : Exn) (M : Mo) (ρ : Env) (k : α → Mo → SOut) : (GOut.exc x M : GOut α).then ρ k = .exc x ρ M := rfl
@[simp] theorem GOut.then_bad {α : Type} (ρ : Env) (k : α → Mo → SOut) : (GOut.bad : GOut α).then ρ k = .bad := rfl
theorem then_sat {α : Type} {K : PySem.W.Frag} {g : Gh} {H : Hp} {σ : L2.St} {ρ : Env} {o : GOut α} {k : α → Mo → SOut} {nx bk ct : Env → Mo → Prop} {rt : Dat → Mo → Prop} (h : (o.then ρ k).sat nx rt bk ct (sX K cad W q g H)) : o.sat (fun a M => (k a M).sat nx rt bk ct (sX K cad W q g H)) (gE K cad W q g H σ ρ) := by
  cases o with
  | ok a M => exact h
  | exc x M => exact fun H' g' c dd r I z => h σ H' g' c dd r I z.fr
  | bad => exact h
/-! ### stores, returns, calls for their own sake -/
def sSet (tg : TgF) (f : GF) : SF := fun M ρ => (f M ρ).then ρ fun d M' => match tg d ρ with
  | some ρ' => .next ρ' M'
  | none => .bad
theorem se_asg {tg : Expr} {js : List Nat} {tf : TgF} {f : GF} (he : GE cad X W q e f) (hg : QG cad X tg js tf) (hs : swapsWithSole [tg] e pos.line X.env = pure false) (hw : swappedStores [tg] e X.env = pure none) (h1 : (assignEach [tg] X.env).map (·.2) = [assign tg X.env]) : SE cad X W q (.Assign [tg] e pos) (sSet tf f) := by
  refine PS.weak (ps_asg he hg hs hw h1) fun D σ H ⟨g, ρ, M, I, z⟩ => ?_
  refine tE.go I (then_sat (σ := σ) z) fun d M' v H' g' k r I' rv => ?_
  split at k
  · next ρ' e' => exact ⟨g', ρ, M', d, ρ', I', rv, e', fun vs I2 => k _ H' g' r I2⟩
  · exact False.elim k
def sDrop (f : GF) : SF := fun M ρ => (f M ρ).then ρ fun _ M' => .next ρ M'
theorem se_expr {f : GF} (he : GE cad X W q e f) (hs : swapsWith e none pos.line X.env = pure false) : SE cad X W q (.Expr e pos) (sDrop f) := by
  refine PS.weak (ps_expr he hs) fun D σ H ⟨g, ρ, M, I, z⟩ => ?_
  exact tE.go I (then_sat (σ := σ) z) fun d M' v H' g' k r I' rv => k σ H' g' r I'
end
/-! ### lists of one's own as data: where nothing of theirs is kept -/
def thawC : Cell → Cell
  | .mut xs => .dat (.list xs)
  | c => c
def thaw (ρ : Env) : Env := ρ.map fun o => o.map thawC
section
variable {K : PySem.W.Frag} {cad : Cad} {W : WX} {q : Bool} {g : Gh} {H : Hp} {σ : L2.St} {ρ : Env} {M : Mo}
theorem DicAt.less {g' : Gh} {l : Addr} (e : g'.tbl = g.tbl) (n : ∀ a, g'.A a → g.A a) : ∀ {b : Bool} {kvs : List (Dat × Dat)}, DicAt K cad g H l b kvs → DicAt K cad g' H l b kvs
  | false, _, ⟨kv, h1, h2, h3⟩ => ⟨kv, h1, h2, h3.less e n⟩
  | true, _, ⟨o, xs, vs, h1, h2, h3, h4, h5, h6⟩ => ⟨o, xs, vs, h1, h2, h3, h4.less e n, h5, h6.less e n⟩
theorem FldRep.less {g' : Gh} {h : Nat} {f : Str} {v : V} (e : g'.tbl = g.tbl) (e2 : g'.ow = g.ow) (n : ∀ a, g'.A a → g.A a) : ∀ {fl : Fld}, FldRep K cad g H h f v fl → FldRep K cad g' H h f v fl
  | .dat _, z => Rep.less e n z
  | .lst _ _, ⟨l, us, h1, h2, h3, h4, h5⟩ => ⟨l, us, h1, h2, by rw [e2]; exact h3, h4.less e n, by rw [e]; exact h5⟩
  | .dic _ _, ⟨l, h1, h2, h3⟩ => ⟨l, h1, by rw [e2]; exact h2, h3.less e n⟩
theorem FsRep.less {g' : Gh} {h : Nat} (e : g'.tbl = g.tbl) (e2 : g'.ow = g.ow) (n : ∀ a, g'.A a → g.A a) : ∀ {fs : List (Str × V)} {gs : List (Str × Fld)}, FsRep K cad g H h fs gs → FsRep K cad g' H h fs gs
  | _, _, .nil => .nil
  | _, _, .cons z t => .cons (FldRep.less e e2 n z) (FsRep.less e e2 n t)
theorem WOk.less {g' : Gh} (e : g'.tbl = g.tbl) (e2 : g'.ow = g.ow) (n : ∀ a, g'.A a → g.A a) (w : WOk K cad g H M) : WOk K cad g' H M where
  len := by rw [e]; exact w.len
  inj := by rw [e]; exact w.inj
  ins := fun h a i ha hi hc => by
    rw [e] at ha
    obtain ⟨C, dx, fs, c1, c2, c3⟩ := w.ins h a i ha hi hc
    exact ⟨C, dx, fs, c1, c2, c3.less e e2 n⟩
  nd := w.nd
  fd := w.fd
  tw := by rw [e, e2]; exact w.tw
  dm := w.dm
  nc := w.nc
theorem thaw_get {i : Nat} {c : Cell} (h : (thaw ρ)[i]? = some (some c)) : ∃ c', ρ[i]? = some (some c') ∧ c = thawC c' := by
  unfold thaw at h
  rw [List.getElem?_map] at h
  cases hr : ρ[i]? with
  | none => rw [hr] at h; cases h
  | some o =>
    rw [hr] at h
    cases o with
    | none => cases h
    | some c' =>
      cases h
      exact ⟨c', rfl, rfl⟩
theorem SInv.thaw (I : SInv K cad σ H g ρ M) : SInv K cad σ H g.fr (thaw ρ) M where
  kd := ⟨fun a z => I.kd.ob a (fr_less g a z), fun a z => False.elim z, fun a z => ⟨(I.kd.lc a z).1, fun y => y⟩⟩
  wok := WOk.less (g := g) (g' := g.fr) rfl rfl (fr_less g) I.wok
  len := by unfold Rf.thaw; rw [List.length_map]; exact I.len
  dat := fun i d h => by
    obtain ⟨c, h1, h2⟩ := thaw_get h
    cases c with
    | dat d' =>
      cases h2
      obtain ⟨v, e1, e2⟩ := I.dat i _ h1
      exact ⟨v, e1, e2.fr⟩
    | «mut» xs =>
      cases h2
      obtain ⟨l, us, e1, e2, e3, e4⟩ := I.own i _ h1
      refine ⟨_, e1, .lst (.inl ⟨.inl e2, fun z => ?_⟩) e4.fr⟩
      rcases z with z | z | z
      · exact I.kd.lo l e3 z
      · exact (I.kd.lc l z).2 e3
      · exact z
  own := fun i xs h => by
    obtain ⟨c, h1, h2⟩ := thaw_get h
    cases c <;> cases h2
  sep := fun i j xs ys l ne h1 => by
    obtain ⟨c, h1, h2⟩ := thaw_get h1
    cases c <;> cases h2
end
end Rf
/-! # R10: returns, tests, loops, lists of one's own -/
namespace Rf
open PySem PySem.Spec PyProof.Rows L2 Evl

section
variable {K : PySem.W.Frag} {cad : Cad} {W : WX} {q : Bool} {g g' : Gh} {H H' : Hp} {σ : L2.St} {ρ : Env} {M : Mo}
theorem Kd.fr (k : Kd g H) : Kd g.fr H := ⟨fun a z => k.ob a (fr_less g a z), fun a z => False.elim z, fun a z => ⟨(k.lc a z).1, fun y => y⟩⟩
theorem WOk.fr (w : WOk K cad g H M) : WOk K cad g.fr H M := WOk.less (g := g) (g' := g.fr) rfl rfl (fr_less g) w
theorem set_get {α : Type} {l : List (Option α)} {j i : Nat} {c : α} {o : Option α} (h : (l.set j o)[i]? = some (some c)) : (j = i ∧ o = some c ∧ j < l.length) ∨ (j ≠ i ∧ l[i]? = some (some c)) := by
  by_cases z : j = i
  · subst z
    have hj : j < l.length := by
      have := (List.getElem?_eq_some_iff.mp h).1
      rw [List.length_set] at this
      exact this
    rw [List.getElem?_set_self hj] at h
    exact .inl ⟨rfl, Option.some.inj h, hj⟩
  · rw [List.getElem?_set_ne z] at h
    exact .inr ⟨z, h⟩
/-- a name gets a new list of its own -/
theorem SInv.setMut {j : Nat} {l : Addr} {us : List V} {xs : List Dat} (I : SInv K cad σ H g ρ M) (n : H l = none) (e : Ex H H') (hl : H' l = some (.lst us)) (r : Reps K (g.add l) H' us xs) : SInv K cad (σ.set j (some (.ref l))) H' (g.add l) (ρ.set j (some (.mut xs))) M := by
  have I1 := I.add n e hl trivial
  have nl : ∀ (i : Nat) (ys : List Dat), ρ[i]? = some (some (.mut ys)) → σ[i]? ≠ some (some (.ref l)) := fun i ys h z => by
    obtain ⟨l', us', h1, h2, _⟩ := I.own i ys h
    rw [z] at h1
    cases h1
    rw [n] at h2
    cases h2
  refine ⟨I1.kd, I1.wok, by rw [List.length_set, List.length_set]; exact I.len, fun i d h => ?_, fun i ys h => ?_, fun i k ys zs a ne h1 h2 h3 h4 => ?_⟩
  · rcases set_get h with ⟨_, h, _⟩ | ⟨ne, h⟩
    · cases h
    · rw [List.getElem?_set_ne ne]
      exact I1.dat i d h
  · rcases set_get h with ⟨rfl, h, hj⟩ | ⟨ne, h⟩
    · cases h
      exact ⟨l, us, by rw [List.getElem?_set_self (by rw [I.len]; exact hj)], hl, .inr rfl, r⟩
    · rw [List.getElem?_set_ne ne]
      exact I1.own i ys h
  · rcases set_get h1 with ⟨rfl, h1, hj⟩ | ⟨n1, h1⟩
    · rcases set_get h2 with ⟨rfl, h2, _⟩ | ⟨n2, h2⟩
      · exact ne rfl
      · rw [List.getElem?_set_self (by rw [I.len]; exact hj)] at h3
        cases h3
        rw [List.getElem?_set_ne n2] at h4
        exact nl k zs h2 h4
    · rcases set_get h2 with ⟨rfl, h2, hj⟩ | ⟨n2, h2⟩
      · rw [List.getElem?_set_self (by rw [I.len]; exact hj)] at h4
        cases h4
        rw [List.getElem?_set_ne n1] at h3
        exact nl i ys h1 h3
      · rw [List.getElem?_set_ne n1] at h3
        rw [List.getElem?_set_ne n2] at h4
        exact I.sep i k ys zs a ne h1 h2 h3 h4
theorem FldRep.loc {l : Addr} {us us' : List V} {h : Nat} {f : Str} {v : V} (k : Kd g H) (hl : H l = some (.lst us)) (lo : g.Lo l) : ∀ {fl : Fld}, FldRep K cad g H h f v fl → FldRep K cad g (upd H l (.lst us')) h f v fl := fun {fl} z => by
  have r : Gr true g g H (upd H l (.lst us')) := Gr.upd k hl (.inr lo)
  cases fl with
  | dat d => exact Rep.gr r k z
  | lst n xs =>
    obtain ⟨a, ws, h1, h2, h3, h4, h5⟩ := z
    exact ⟨a, ws, h1, by rw [upd_ne (fun z => by subst z; exact k.lo _ lo (.inr (by rw [h3]; exact fun z => nomatch z)))]; exact h2, h3, h4.gr r k, h5⟩
  | dic n kvs =>
    obtain ⟨a, h1, h2, h3⟩ := z
    have na : a ≠ l := fun z => by subst z; exact k.lo _ lo (.inr (by rw [h2]; exact fun z => nomatch z))
    refine ⟨a, h1, h2, ?_⟩
    cases n with
    | false =>
      obtain ⟨kv, h3, h4, h5⟩ := h3
      exact ⟨kv, by rw [upd_ne na]; exact h3, h4, h5.gr r k⟩
    | true =>
      obtain ⟨o, xs, vs, h3, h4, h5, h6, h7, h8⟩ := h3
      exact ⟨o, xs, vs, by rw [upd_ne na]; exact h3, h4, h5, h6.gr r k, h7, h8.gr r k⟩
theorem FsRep.loc {l : Addr} {us us' : List V} {h : Nat} (k : Kd g H) (hl : H l = some (.lst us)) (lo : g.Lo l) : ∀ {fs : List (Str × V)} {gs : List (Str × Fld)}, FsRep K cad g H h fs gs → FsRep K cad g (upd H l (.lst us')) h fs gs
  | _, _, .nil => .nil
  | _, _, .cons z t => .cons (FldRep.loc k hl lo z) (FsRep.loc k hl lo t)
theorem WOk.loc {l : Addr} {us us' : List V} (k : Kd g H) (hl : H l = some (.lst us)) (lo : g.Lo l) (w : WOk K cad g H M) : WOk K cad g (upd H l (.lst us')) M where
  len := w.len
  inj := w.inj
  ins := fun h a i ha hi hc => by
    obtain ⟨C, dx, fs, c1, c2, c3⟩ := w.ins h a i ha hi hc
    exact ⟨C, dx, fs, c1, by rw [upd_ne (fun z => by subst z; exact k.lo _ lo (.inl (List.mem_of_getElem? ha)))]; exact c2, c3.loc k hl lo⟩
  nd := w.nd
  fd := w.fd
  tw := w.tw
  dm := w.dm
  nc := w.nc
/-- a list of one's own changes -/
theorem SInv.change {j : Nat} {xs ys : List Dat} (I : SInv K cad σ H g ρ M) (hj : ρ[j]? = some (some (.mut xs))) : ∃ l us, σ[j]? = some (some (.ref l)) ∧ H l = some (.lst us) ∧ g.Lo l ∧ Reps K g H us xs ∧ ∀ us', Reps K g H us' ys → SInv K cad σ (upd H l (.lst us')) g (ρ.set j (some (.mut ys))) M := by
  obtain ⟨l, us, h1, h2, h3, h4⟩ := I.own j xs hj
  refine ⟨l, us, h1, h2, h3, h4, fun us' r => ?_⟩
  have gr : Gr true g g H (upd H l (.lst us')) := Gr.upd I.kd h2 (.inr h3)
  refine ⟨I.kd.upd trivial, I.wok.loc I.kd h2 h3, by rw [List.length_set]; exact I.len, fun i d h => ?_, fun i zs h => ?_, fun i k zs ws a ne e1 e2 e3 e4 => ?_⟩
  · rcases set_get h with ⟨_, h, _⟩ | ⟨ne, h⟩
    · cases h
    · obtain ⟨v, e1, e2⟩ := I.dat i d h
      exact ⟨v, e1, e2.gr gr I.kd⟩
  · rcases set_get h with ⟨rfl, h, _⟩ | ⟨ne, h⟩
    · cases h
      exact ⟨l, us', h1, upd_same, h3, r.gr gr I.kd⟩
    · obtain ⟨l', ws, e1, e2, e3, e4⟩ := I.own i zs h
      have nl : l' ≠ l := fun z => by
        subst z
        exact I.sep i j zs xs l' (Ne.symm ne) h hj e1 h1
      exact ⟨l', ws, e1, by rw [upd_ne nl]; exact e2, e3, e4.gr gr I.kd⟩
  · have k1 : ∃ xs, ρ[i]? = some (some (.mut xs)) := by
      rcases set_get e1 with ⟨rfl, _, _⟩ | ⟨_, h⟩
      · exact ⟨xs, hj⟩
      · exact ⟨zs, h⟩
    have k2 : ∃ xs, ρ[k]? = some (some (.mut xs)) := by
      rcases set_get e2 with ⟨rfl, _, _⟩ | ⟨_, h⟩
      · exact ⟨xs, hj⟩
      · exact ⟨ws, h⟩
    obtain ⟨x1, k1⟩ := k1
    obtain ⟨x2, k2⟩ := k2
    exact I.sep i k x1 x2 a ne k1 k2 e3 e4
end
section
variable {X : Cx} {cad : Cad} {W : WX} {q : Bool} {a b e : Expr} {pos : Pos}
/-! ### return -/
def sRet (f : QF) : SF := fun M ρ => ((f M (thaw ρ)).at M).then ρ fun d M' => .ret d M'
def sRetG (f : GF) : SF := fun M ρ => (f M ρ).then ρ fun d M' => .ret d M'
theorem se_ret {f : QF} (he : QE cad X W e f) : SE cad X W q (.Return (some e) pos) (sRet f) := by
  refine PS.weak (ps_ret he) fun D σ H ⟨g, ρ, M, I, z⟩ => ?_
  refine ⟨g.fr, thaw ρ, M, I.thaw, ?_⟩
  unfold sRet at z
  cases hf : f M (thaw ρ) with
  | ok d =>
    rw [hf] at z
    exact fun v H' e r => z v H' g (Gr.ex e) (I.ex e).kd.fr (I.ex e).wok.fr r
  | exc x =>
    rw [hf] at z
    exact fun H' c dd e r => z σ H' g c dd (Gr.ex e) (I.ex e) r
  | bad => rw [hf] at z; exact False.elim z
theorem se_retG {f : GF} (he : GE cad X W q e f) : SE cad X W q (.Return (some e) pos) (sRetG f) := by
  refine PS.weak (ps_ret he) fun D σ H ⟨g, ρ, M, I, z⟩ => ?_
  exact tE.go I (then_sat (σ := σ) z) fun d M' v H' g' k r I' rv => k v H' g' r I'.kd.fr I'.wok.fr rv.fr
/-! ### if -/
def sIf (t : QT) (f k : SF) : SF := fun M ρ => ((t M (thaw ρ)).at M).then ρ fun c M' => if c = true then f M' ρ else k M' ρ
def sIfG (t : GT) (f k : SF) : SF := fun M ρ => (t M ρ).then ρ fun c M' => if c = true then f M' ρ else k M' ρ
theorem se_if {c : Expr} {s1 s2 : List Stmt} {t : QT} {f k : SF} (hc : QTe cad X W c t) (h1 : SEs cad X W q s1 f) (h2 : SEs cad X W q s2 k) : SE cad X W q (.If c s1 s2 pos) (sIf t f k) := by
  refine PS.weak (ps_if hc h1 h2) fun D σ H ⟨g, ρ, M, I, z⟩ => ?_
  refine ⟨g.fr, thaw ρ, M, I.thaw, ?_⟩
  unfold sIf at z
  cases hf : t M (thaw ρ) with
  | ok d =>
    rw [hf] at z
    intro H' e
    cases d with
    | true => exact tS.go (I.ex e) (Gr.ex e) z
    | false => exact tS.go (I.ex e) (Gr.ex e) z
  | exc x =>
    rw [hf] at z
    exact fun H' c dd e r => z σ H' g c dd (Gr.ex e) (I.ex e) r
  | bad => rw [hf] at z; exact False.elim z
theorem se_ifG {c : Expr} {s1 s2 : List Stmt} {t : GT} {f k : SF} (hc : GTe cad X W q c t) (h1 : SEs cad X W q s1 f) (h2 : SEs cad X W q s2 k) : SE cad X W q (.If c s1 s2 pos) (sIfG t f k) := by
  refine PS.weak (ps_if hc h1 h2) fun D σ H ⟨g, ρ, M, I, z⟩ => ?_
  refine tET.go I (then_sat (σ := σ) z) fun b M' H' g' kk r I' => ?_
  cases b with
  | true => exact tS.go I' r kk
  | false => exact tS.go I' r kk
/-! ### for -/
def forD (tg : TgF) (body : SF) : List Dat → Mo → Env → SOut
  | [], M, ρ => .next ρ M
  | d :: ds, M, ρ => match tg d ρ with
    | none => .bad
    | some ρ1 => match body M ρ1 with
      | .next ρ2 M2 => forD tg body ds M2 ρ2
      | .cont ρ2 M2 => forD tg body ds M2 ρ2
      | .brk ρ2 M2 => .next ρ2 M2
      | .ret d M2 => .ret d M2
      | .exc x ρ2 M2 => .exc x ρ2 M2
      | .bad => .bad
def sFor (it : IF) (tg : TgF) (body : SF) : SF := fun M ρ => ((it M ρ).at M).then ρ fun ds M' => forD tg body ds M' ρ
theorem se_for {tg iter : Expr} {body : List Stmt} {it : IF} {js : List Nat} {tf : TgF} {f : SF} (hp : PassesOwn (model X.prog X.w) X.A X.env X.xe) (hc : X.calm = true) (hi : QI cad X W true tg iter it) (hg : QG cad X tg js tf) (hb : SEs cad X W q body f) (hs : ∀ x, foldedSetIterable iter X.env x = pure x) :
    SE cad X W q (.For tg iter body [] pos) (sFor it tf f) := by
  refine PS.weak (ps_for hp hc hi hg hb hs) fun D σ H ⟨g, ρ, M, I, z⟩ => ?_
  refine ⟨g, ρ, M, I, ?_⟩
  unfold sFor at z
  cases hf : it M ρ with
  | exc x =>
    rw [hf] at z
    exact fun H' c dd e r => z σ H' g c dd (Gr.ex e) (I.ex e) r.fr
  | bad => rw [hf] at z; exact False.elim z
  | ok ds =>
    rw [hf] at z
    intro J C H1 e1 w c1 firm
    have firm := firm rfl
    have z : (forD tf f ds M ρ).sat (sN X.K cad q D.nx g H) (sR X.K cad q D.rt g H) (sN X.K cad q D.bk g H) (sN X.K cad q D.ct g H) (sX X.K cad W q g H) := z
    let Pv : Nat → L2.St → Hp → Prop := fun i σi Hi => i ≤ ds.length ∧ ∃ gi ρi Mi, Gr q g gi H Hi ∧ SInv X.K cad σi Hi gi ρi Mi ∧ C gi Hi ∧ (forD tf f (ds.drop i) Mi ρi).sat (sN X.K cad q D.nx g H) (sR X.K cad q D.rt g H) (sN X.K cad q D.bk g H) (sN X.K cad q D.ct g H) (sX X.K cad W q g H)
    refine ⟨fun i m σi Hi => m = ds.length - i ∧ Pv i σi Hi, ⟨ds.length, rfl, Nat.zero_le _, g, ρ, M, Gr.ex e1, I.ex e1, c1, by rw [List.drop_zero]; exact z⟩, ?_⟩
    rintro i m σi Hi ⟨rfl, hi, gi, ρi, Mi, ri, Ii, Ci, zi⟩
    by_cases hlt : i < ds.length
    · refine .inr ⟨w.go _ i Hi Ci hlt, Pv (i + 1), fun σ' H' p => ⟨ds.length - (i + 1), by omega, rfl, p⟩, fun x H' y => ?_⟩
      have hd : ds[i]? = some ds[i] := List.getElem?_eq_getElem hlt
      obtain ⟨e2, rx⟩ := w.yld _ i Hi x H' _ Ii.kd Ci hd y
      rw [List.drop_eq_getElem_cons hlt, forD] at zi
      split at zi
      · exact False.elim zi
      · next ρ1 he =>
        have I2 := Ii.ex e2
        refine ⟨gi, ρi, Mi, _, ρ1, I2, rx, he, fun vs I3 => ⟨gi, ρ1, Mi, I3, ?_⟩⟩
        have r2 := ri.trans (Gr.ex e2)
        cases hb' : f Mi ρ1 with
        | next ρ2 M2 =>
          rw [hb'] at zi
          exact fun σ' H2 g2 r I' => ⟨hlt, g2, ρ2, M2, r2.trans r, I', firm q gi g2 H' H2 I2.kd (w.ex _ _ _ Ii.kd Ci e2) r, zi⟩
        | cont ρ2 M2 =>
          rw [hb'] at zi
          exact fun σ' H2 g2 r I' => ⟨hlt, g2, ρ2, M2, r2.trans r, I', firm q gi g2 H' H2 I2.kd (w.ex _ _ _ Ii.kd Ci e2) r, zi⟩
        | brk ρ2 M2 =>
          rw [hb'] at zi
          exact sN.gr r2 zi
        | ret d M2 =>
          rw [hb'] at zi
          exact sR.gr r2 zi
        | exc x ρ2 M2 =>
          rw [hb'] at zi
          exact sX.gr r2 zi
        | bad => rw [hb'] at zi; exact False.elim zi
    · have e : i = ds.length := by omega
      refine .inl ⟨w.stop _ i Hi Ci e, ?_⟩
      rw [e, List.drop_length] at zi
      exact zi σi Hi gi ri Ii
/-! ### x += e -/
def sAug (j : Nat) (f : QF) : SF := fun M ρ => match ρ[j]? with
  | some (some (.dat (.int i))) => ((f M ρ).at M).then ρ fun d M' => match d with
    | .int k => .next (ρ.set j (some (.dat (.int (i + k))))) M'
    | _ => .bad
  | _ => .bad
theorem se_aug {j : Nat} {x : Str} {f : QF} {pos' : Pos} (hN : X.N.Nodup) (hi : X.N[j]? = some x) (hx : Loc X.env.scope x) (hf : X.fn x = true ∨ X.env.scope.names.lookup x = some .local) (he : QE cad X W e f) : SE cad X W q (.AugAssign (.Name x pos') .Add e pos) (sAug j f) := by
  refine PS.weak (ps_aug hN hi hx he ip_add hf) fun D σ H ⟨g, ρ, M, I, z⟩ => ?_
  unfold sAug at z
  split at z
  · next i hj =>
    obtain ⟨v, h1, h2⟩ := I.dat j _ hj
    cases h2
    refine ⟨.int i, h1, ⟨g, ρ, M, I, ?_⟩⟩
    cases hf' : f M ρ with
    | exc x => rw [hf'] at z; exact fun H' c dd e r => z σ H' g c dd (Gr.ex e) (I.ex e) r.fr
    | bad => rw [hf'] at z; exact False.elim z
    | ok d =>
      rw [hf'] at z
      intro u H' e r
      cases d with
      | int k =>
        cases r
        exact ⟨i, k, rfl, rfl, z _ H' g (Gr.ex e) ((I.ex e).set (.int _))⟩
      | _ => exact False.elim z
  · exact False.elim z
/-! ### lists of one's own -/
def FE (cad : Cad) (X : Cx) (W : WX) (e : Expr) (f : IF) : Prop := PE X e (tFr X.K cad W f)
def sMut (j : Nat) (f : IF) : SF := fun M ρ => ((f M ρ).at M).then ρ fun xs M' => .next (ρ.set j (some (.mut xs))) M'
theorem mut_go {j : Nat} {f : IF} (D : Ends) (σ : L2.St) (H : Hp) (h : tS X.K cad W q (sMut j f) D σ H) : tAsg (tFr X.K cad W f) (gName j) D σ H := by
  obtain ⟨g, ρ, M, I, z⟩ := h
  refine ⟨g, ρ, M, I, ?_⟩
  unfold sMut at z
  cases hf : f M ρ with
  | exc x => rw [hf] at z; exact fun H' c dd e r => z σ H' g c dd (Gr.ex e) (I.ex e) r.fr
  | bad => rw [hf] at z; exact False.elim z
  | ok xs =>
    rw [hf] at z
    intro l us H' n e hl r
    have gr : Gr true g (g.add l) H H' := Gh.add_gr n e
    refine z _ H' (g.add l) ?_ (I.setMut n e hl r)
    cases q with
    | true => exact gr
    | false => exact gr.loud
theorem se_mut {j : Nat} {x : Str} {f : IF} {pos' : Pos} (hN : X.N.Nodup) (hi : X.N[j]? = some x) (hx : Loc X.env.scope x) (hf : X.fn x = true ∨ X.env.scope.names.lookup x = some .local) (he : FE cad X W e f) (hs : swapsWith e (some (.Name x pos')) pos.line X.env = pure false) : SE cad X W q (.Assign [.Name x pos'] e pos) (sMut j f) :=
  PS.weak (ps_set hN hi hx he hs hf) fun D σ H h => mut_go D σ H h
def qlNil : IF := fun _ _ => .ok []
def asL (f : QA) : IF := fun M ρ => (f M ρ).bind fun xs => Out.when (decide (xs.length ≤ 100000)) (.ok xs)
theorem reps_add {K : PySem.W.Frag} {g : Gh} {H : Hp} {l : Addr} {vs : List V} {ds : List Dat} (k : Kd g H) (n : H l = none) (r : Reps K g H vs ds) {o : HO} : Reps K (g.add l) (upd H l o) vs ds := r.gr (Gh.add_gr n (Ex.new n)) k
theorem fe_lst {es : List Expr} {fr : QA} (h : QAe cad X W es fr) : FE cad X W (.List es pos) (asL fr) :=
  PE.weak (pe_lst h) fun σ H Q ⟨g, ρ, M, I, h⟩ => by
    refine tQA.go I h.bnd fun ds vs H1 h1 e1 r1 => ?_
    obtain ⟨hz, h1⟩ := h1.whn
    have hl : vs.length ≤ 100000 := by
      rw [r1.length]
      exact of_decide_eq_true hz
    exact ⟨sz_of hl, fun p np => h1 p vs _ (ex_dom e1 p np) (e1.trans (Ex.new np)) upd_same (reps_add (I.kd.ex e1) np r1)⟩
/-- list(e) -/
def listL : Dat → Out (List Dat)
  | .list ds => .ok ds
  | .tuple ds => .ok ds
  | _ => .bad
def asListOf (f : QF) : IF := fun M ρ => (f M ρ).bind listL
theorem fe_list {f : QF} {p : Pos} (hg : Gl X "list") (hm : X.mg "list" = none) (hv : BV (.type "list") "list") (ha : QW cad X W a f) (hs : nst a = true) : FE cad X W (.Call (.Name "list" p) [a] [] pos) (asListOf f) := by
  have h1 := pa_cons ha pa_nil (star1 hs [])
  refine PE.weak (pe_callTy (pos := pos) (p := p) call_list_of hg hm hv.1 h1 hv.2.1 hv.2.2 (star1 hs []) (by with_unfolding_all rfl)) fun σ H Q ⟨g, ρ, M, I, h⟩ => ?_
  refine tW.go I h.bnd fun d v H1 h1 e1 r1 => ?_
  unfold listL at h1
  split at h1
  · obtain ⟨p, us, rfl, s1, t1⟩ := wr_lst r1
    exact ⟨p, us, rfl, .inl s1, fun l nl => h1 l us _ (ex_dom e1 l nl) (e1.trans (Ex.new nl)) upd_same (reps_add (I.kd.ex e1) nl t1)⟩
  · obtain ⟨p, us, rfl, s1, t1⟩ := wr_tup r1
    exact ⟨p, us, rfl, .inr s1, fun l nl => h1 l us _ (ex_dom e1 l nl) (e1.trans (Ex.new nl)) upd_same (reps_add (I.kd.ex e1) nl t1)⟩
  · exact False.elim h1
/-- a base that is no super() -/
def baseOk : Expr → Bool
  | .Call (.Name _ _) _ _ _ => false
  | _ => true
theorem base_ok {o : Expr} {m : Str} {env : PySem.Env} {w : Sem Value} (h : baseOk o = true) : attributeBase o m env w = w := by
  cases o with
  | Call f as ks p => cases f <;> first | rfl | cases h
  | _ => rfl
theorem star_few {env : PySem.Env} {pos : Pos} : ∀ (es : List Expr), es.all nst = true → (backTo pos (starEach es env)).all (fun x => !x.1) = true
  | [], _ => by with_unfolding_all rfl
  | a :: es, h => by
    rw [List.all_cons, Bool.and_eq_true] at h
    rw [star1 h.1]
    have ih := star_few (env := env) (pos := pos) es h.2
    unfold backTo at ih ⊢
    rw [List.map_cons, List.all_cons, ih]
    rfl
theorem few {env : PySem.Env} {pos : Pos} {es : List Expr} (h : es.all nst = true) (hl : es.length < 30) : ((backTo pos (starEach es env)).all (fun x => !x.1) && (backToKw pos (keywordEach [] env)).all (fun x => x.1.isSome) && decide (es.length + ([] : List Keyword).length + (if ([] : List Keyword).isEmpty then 0 else 1) < 30)) = true := by
  rw [star_few es h]
  have : (backToKw pos (keywordEach [] env)).all (fun x => x.1.isSome) = true := by with_unfolding_all rfl
  rw [this]
  simpa using hl
/-- x.append(e) -/
def sApp (j : Nat) (f : QF) : SF := fun M ρ => match ρ[j]? with
  | some (some (.mut xs)) => ((f M ρ).at M).then ρ fun d M' => if xs.length < 100000 then .next (ρ.set j (some (.mut (xs ++ [d])))) M' else .bad
  | _ => .bad
theorem se_app {j : Nat} {x : Str} {f : QF} {p apos : Pos} {epos : Pos} (hN : X.N[j]? = some x) (hv : Vis X.env.scope x) (hd : (x == ("__debug__" : Str)) = false) (hcd : (x == ("__classdict__" : Str)) = false) (he : QE cad X W e f) (hs : nst e = true)
    (hl : (apos.endLine == pos.line) = true) : SE cad X W q (.Expr (.Call (.Attribute (.Name x p) "append" apos) [e] [] pos) epos) (sApp j f) := by
  have h0 := pe_var (X := X) (pos := p) hN hv hd hcd
  have h1 := pa_cons he pa_nil (star1 hs [])
  have key := pe_bm (X := X) (cpos := pos) (apos := apos) PySem.F.plainAttrs_list PySem.F.slot_list_append PySem.F.type_list_append mt_append h0 h1 (base_ok rfl) (few (by simp [hs]) (by simp)) hl (star1 hs []) (by with_unfolding_all rfl)
  refine PS.weak (ps_expr key (by with_unfolding_all rfl)) fun D σ H ⟨g, ρ, M, I, z⟩ => ?_
  unfold sApp at z
  split at z
  · next xs hj =>
    obtain ⟨l, us, e1, e2, e3, e4⟩ := I.own j xs hj
    refine ⟨.ref l, e1, .inl ⟨rfl, us, sq_of e2⟩, ⟨g, ρ, M, I, ?_⟩⟩
    cases hf : f M ρ with
    | exc x => rw [hf] at z; exact fun H' c dd e r => z σ H' g c dd (Gr.ex e) (I.ex e) r.fr
    | bad => rw [hf] at z; exact False.elim z
    | ok d =>
      rw [hf] at z
      intro v H' e r
      have z : (if xs.length < 100000 then SOut.next (ρ.set j (some (.mut (xs ++ [d])))) M else .bad).sat (sN X.K cad q D.nx g H) (sR X.K cad q D.rt g H) (sN X.K cad q D.bk g H) (sN X.K cad q D.ct g H) (sX X.K cad W q g H) := z
      split at z
      · next hlen =>
        have I1 := I.ex e
        obtain ⟨l', us', f1, f2, f3, f4, f5⟩ := I1.change (ys := xs ++ [d]) hj
        rw [e1] at f1
        cases f1
        rw [e _ _ e2] at f2
        cases f2
        refine ⟨l, us, v, rfl, rfl, e _ _ e2, sz_lt (by rw [e4.length]; exact hlen), ?_⟩
        exact z _ _ g ((Gr.ex e).trans (Gr.upd I1.kd (e _ _ e2) (.inr f3))) (f5 _ (f4.append (.cons r .nil)))
      · exact False.elim z
  · exact False.elim z
/-- x[i] = e -/
def sSetI (j : Nat) (fi f : QF) : SF := fun M ρ => match ρ[j]? with
  | some (some (.mut xs)) => ((f M ρ).at M).then ρ fun d M' => ((fi M' ρ).at M').then ρ fun i M2 => match i with
    | .int k => match ixN xs.length k with
      | some n => .next (ρ.set j (some (.mut (xs.set n d)))) M2
      | none => .bad
    | _ => .bad
  | _ => .bad
theorem se_setI {j : Nat} {x : Str} {i : Expr} {f fi : QF} {p spos : Pos} (hN : X.N[j]? = some x) (hv : Vis X.env.scope x) (hd : (x == ("__debug__" : Str)) = false) (hcd : (x == ("__classdict__" : Str)) = false) (he : QE cad X W e f) (hi : QE cad X W i fi)
    (ha : ∀ v, assign (.Subscript (.Name x p) i spos) X.env v = (do
      let ov ← holding [v] (eval (.Name x p) X.env)
      let iv ← holding [v, ov] (eval i X.env)
      standAt spos
      holding [v, ov, iv] (setItem ov iv v)
      release [v, ov, iv] []))
    (hs : swapsWithSole [.Subscript (.Name x p) i spos] e pos.line X.env = pure false) (h1 : (assignEach [.Subscript (.Name x p) i spos] X.env).map (·.2) = [assign (.Subscript (.Name x p) i spos) X.env]) : SE cad X W q (.Assign [.Subscript (.Name x p) i spos] e pos) (sSetI j fi f) := by
  have h0 := pe_var (X := X) (pos := p) hN hv hd hcd
  refine PS.weak (ps_asg he (pg_sub h0 hi set_list ha) hs (by with_unfolding_all rfl) h1) fun D σ H ⟨g, ρ, M, I, z⟩ => ?_
  unfold sSetI at z
  split at z
  · next xs hj =>
    refine ⟨g, ρ, M, I, ?_⟩
    cases hf : f M ρ with
    | exc x => rw [hf] at z; exact fun H' c dd e r => z σ H' g c dd (Gr.ex e) (I.ex e) r.fr
    | bad => rw [hf] at z; exact False.elim z
    | ok d =>
      rw [hf] at z
      intro v H1 e1 r1
      have I1 := I.ex e1
      obtain ⟨l, us, f1, f2, f3, f4⟩ := I1.own j xs hj
      refine ⟨.ref l, f1, ⟨g, ρ, M, I1, ?_⟩⟩
      cases hfi : fi M ρ with
      | exc x =>
        simp only [Out.at_ok, GOut.then_ok, hfi, Out.at_exc, GOut.then_exc] at z
        exact fun H' c dd e r => z σ H' g c dd ((Gr.ex e1).trans (Gr.ex e)) (I1.ex e) r.fr
      | bad =>
        simp only [Out.at_ok, GOut.then_ok, hfi, Out.at_bad, GOut.then_bad] at z
        exact False.elim z
      | ok k =>
        simp only [Out.at_ok, GOut.then_ok, hfi] at z
        intro w H2 e2 r2
        cases k with
        | int k =>
          simp only at z
          split at z
          · next n hn =>
            have I2 := I1.ex e2
            obtain ⟨l', us', k1, k2, k3, k4, k5⟩ := I2.change (ys := xs.set n d) hj
            rw [f1] at k1
            cases k1
            rw [e2 _ _ f2] at k2
            cases k2
            cases r2
            refine ⟨l, us, k, n, rfl, rfl, e2 _ _ f2, by rw [f4.length]; exact hn, ?_⟩
            exact z _ _ g (((Gr.ex e1).trans (Gr.ex e2)).trans (Gr.upd I2.kd (e2 _ _ f2) (.inr k3))) (k5 _ (k4.set (r1.ex e2 I1.kd) n))
          · exact False.elim z
        | _ => exact False.elim z
  · exact False.elim z
/-- x.clear() -/
def sClear (j : Nat) : SF := fun M ρ => match ρ[j]? with
  | some (some (.mut _)) => .next (ρ.set j (some (.mut []))) M
  | _ => .bad
theorem se_clear {j : Nat} {x : Str} {p apos : Pos} {epos : Pos} (hN : X.N[j]? = some x) (hv : Vis X.env.scope x) (hd : (x == ("__debug__" : Str)) = false) (hcd : (x == ("__classdict__" : Str)) = false) (hl : (apos.endLine == pos.line) = true) :
    SE cad X W q (.Expr (.Call (.Attribute (.Name x p) "clear" apos) [] [] pos) epos) (sClear j) := by
  have h0 := pe_var (X := X) (pos := p) hN hv hd hcd
  have key := pe_bm0 (X := X) (cpos := pos) (apos := apos) PySem.F.plainAttrs_list PySem.F.slot_list_clear PySem.F.type_list_clear mt_clear h0 (base_ok rfl) hl
  refine PS.weak (ps_expr key (by with_unfolding_all rfl)) fun D σ H ⟨g, ρ, M, I, z⟩ => ?_
  unfold sClear at z
  split at z
  · next xs hj =>
    obtain ⟨l, us, f1, f2, f3, f4, f5⟩ := I.change (ys := []) hj
    exact ⟨.ref l, f1, .inl ⟨rfl, us, sq_of f2⟩, l, us, rfl, rfl, f2, z _ _ g (Gr.upd I.kd f2 (.inr f3)) (f5 [] .nil)⟩
  · exact False.elim z
end
end Rf
/-! # R11: what a def promises; calls -/
namespace Rf
open PySem PySem.Spec PyProof.Rows L2 Evl

/-- behind a call: what is neither an instance's nor new is as it was -/
structure Gc (g g' : Gh) (H H' : Hp) : Prop where
  keep : ∀ a o, H a = some o → ¬ g.W a → H' a = some o
  dom : ∀ a, H' a = none → H a = none
  tbl : ∃ more, g'.tbl = g.tbl ++ more
  W : ∀ a, g.W a → g'.W a
  nW : ∀ a, g'.W a → g.W a ∨ H a = none
  Lc : g'.Lc = g.Lc
  Lo : g'.Lo = g.Lo
def spQ (K : PySem.W.Frag) (cad : Cad) (n : Nat) (m : Mo → List Dat → Out Dat) : Sp := fun vs H Q E => vs.length = n ∧ ∃ g M ds, Kd g H ∧ WOk K cad g H M ∧ Reps K g H vs ds ∧
  (m M ds).sat (fun d => ∀ v H', Ex H H' → Rep K g H' v d → Q v H') fun x => ∀ H' c dd, Ex H H' → XRep K cad g H' x c dd → E c dd H'
def spG (K : PySem.W.Frag) (cad : Cad) (n : Nat) (m : Mo → List Dat → GOut Dat) : Sp := fun vs H Q E => vs.length = n ∧ ∃ g M ds, Kd g H ∧ WOk K cad g H M ∧ Reps K g H vs ds ∧
  (m M ds).sat (fun d M' => ∀ v H' g', Gc g g' H H' → Kd g' H' → WOk K cad g' H' M' → Rep K g' H' v d → Q v H') fun x M' => ∀ H' g' c dd, Gc g g' H H' → Kd g' H' → WOk K cad g' H' M' → XRep K cad g' H' x c dd → E c dd H'
section
variable {K : PySem.W.Frag} {cad : Cad} {W : WX} {g g' : Gh} {H H' : Hp} {σ : L2.St} {ρ : Env} {M M' : Mo}
theorem Gc.gr (r : Gc g g' H H') : Gr false g g' H H' := ⟨fun a o h n _ => r.keep a o h n, (fun z => nomatch z), r.dom, r.tbl, r.W, r.nW, (fun z => nomatch z), r.Lc, fun a h => by rw [r.Lo]; exact h, fun a h => by rw [r.Lo] at h; exact .inl h⟩
theorem SInv.call (r : Gc g g' H H') (k' : Kd g' H') (w' : WOk K cad g' H' M') (I : SInv K cad σ H g ρ M) : SInv K cad σ H' g' ρ M' where
  kd := k'
  wok := w'
  len := I.len
  dat := fun i d h => by
    obtain ⟨v, h1, h2⟩ := I.dat i d h
    exact ⟨v, h1, h2.gr r.gr I.kd⟩
  own := fun i xs h => by
    obtain ⟨l, us, h1, h2, h3, h4⟩ := I.own i xs h
    exact ⟨l, us, h1, r.keep _ _ h2 (I.kd.lo l h3), by rw [r.Lo]; exact h3, h4.gr r.gr I.kd⟩
  sep := I.sep
/-- a callee's ghosts: all lists of its callers kept off -/
def Gh.in (g : Gh) : Gh := { g with Lc := fun a => g.Lc a ∨ g.Lo a, Lo := fun _ => False }
theorem in_A (g : Gh) (a : Addr) : g.in.A a ↔ g.A a := by
  constructor
  · rintro (z | (z | z) | z)
    · exact .inl z
    · exact .inr (.inl z)
    · exact .inr (.inr z)
    · exact False.elim z
  · rintro (z | z | z)
    · exact .inl z
    · exact .inr (.inl (.inl z))
    · exact .inr (.inl (.inr z))
theorem Kd.in (k : Kd g H) : Kd g.in H := ⟨fun a z => k.ob a ((in_A g a).mp z), fun a z => False.elim z, fun a z => ⟨z.elim (fun z => (k.lc a z).1) (fun z => k.lo a z), fun y => y⟩⟩
def ini (n : Nat) (ds : List Dat) : Env := ds.map (fun d => some (.dat d)) ++ List.replicate (n - ds.length) none
theorem ini_inv {N : List Str} {vs : List V} {ds : List Dat} (k : Kd g H) (w : WOk K cad g H M) (r : Reps K g H vs ds) : SInv K cad (start N vs) H g (ini N.length ds) M where
  kd := k
  wok := w
  len := by
    unfold L2.start ini
    rw [List.length_append, List.length_append, List.length_map, List.length_map, List.length_replicate, List.length_replicate, r.length]
  dat := fun i d h => by
    unfold ini at h
    unfold L2.start
    by_cases hi : i < ds.length
    · rw [List.getElem?_append_left (by rw [List.length_map]; exact hi), List.getElem?_map] at h
      cases hd : ds[i]? with
      | none => rw [hd] at h; cases h
      | some d' =>
        rw [hd] at h
        cases h
        obtain ⟨v, h1, h2⟩ := r.get hd
        refine ⟨v, ?_, h2⟩
        rw [List.getElem?_append_left (by rw [List.length_map, r.length]; exact hi), List.getElem?_map, h1]
        rfl
    · rw [List.getElem?_append_right (by rw [List.length_map]; omega)] at h
      rw [List.getElem?_replicate] at h
      split at h <;> cases h
  own := fun i xs h => by
    unfold ini at h
    by_cases hi : i < ds.length
    · rw [List.getElem?_append_left (by rw [List.length_map]; exact hi), List.getElem?_map] at h
      cases hd : ds[i]? with
      | none => rw [hd] at h; cases h
      | some d' => rw [hd] at h; cases h
    · rw [List.getElem?_append_right (by rw [List.length_map]; omega)] at h
      rw [List.getElem?_replicate] at h
      split at h <;> cases h
  sep := fun i j xs ys l ne h => by
    unfold ini at h
    by_cases hi : i < ds.length
    · rw [List.getElem?_append_left (by rw [List.length_map]; exact hi), List.getElem?_map] at h
      cases hd : ds[i]? with
      | none => rw [hd] at h; cases h
      | some d' => rw [hd] at h; cases h
    · rw [List.getElem?_append_right (by rw [List.length_map]; omega)] at h
      rw [List.getElem?_replicate] at h
      split at h <;> cases h
end
/-! ### a def's promise from its body -/
def mQ (n : Nat) (body : SF) : Mo → List Dat → Out Dat := fun M ds => match body M (ini n ds) with
  | .ret d _ => .ok d
  | .next _ _ => .ok .none
  | .exc x _ _ => .exc x
  | _ => .bad
def mG (n : Nat) (body : SF) : Mo → List Dat → GOut Dat := fun M ds => match body M (ini n ds) with
  | .ret d M' => .ok d M'
  | .next _ M' => .ok .none M'
  | .exc x _ M' => .exc x M'
  | _ => .bad
section
variable {P : Program} {w : World} {K : PySem.W.Frag} {mg : Str → Option Value} {base : Heap} {cad : Cad}
/-- the wish of a def: what leaves it -/
def wOut (E : XK) : WX := fun c d _ H => E c d H
theorem Rep.same {g g' : Gh} {H : Hp} {v : V} {d : Dat} (e : g'.tbl = g.tbl) (n : ∀ a, g'.A a ↔ g.A a) (h : Rep K g H v d) : Rep K g' H v d := h.less e fun a z => (n a).mp z
theorem gr_ex {g g' : Gh} {H H' : Hp} (r : Gr true g.in g' H H') : Ex H H' := fun a o h => by
  by_cases w : g.W a
  · exact r.keepW rfl a o h w
  · exact r.keep a o h w fun z => z
theorem fr_A {q : Bool} {g g' : Gh} {H H' : Hp} (r : Gr q g.in g' H H') (a : Addr) : g'.fr.A a ↔ (g'.W a ∨ g.Lc a ∨ g.Lo a) := by
  have hl : g'.Lc = g.in.Lc := r.Lc
  constructor
  · rintro (z | z | z)
    · exact .inl z
    · have z : g'.Lc a := z
      rw [hl] at z
      exact .inr z
    · exact False.elim z
  · rintro (z | z)
    · exact .inl z
    · refine .inr (.inl ?_)
      show g'.Lc a
      rw [hl]
      exact z
theorem ok_q {x qual : Str} {st : Stmt} {f : Addr} {fd : FuncData} {N ps : List Str} {k : Nat} {body : SF} (F : Fun K x qual st f fd) (S : FnScope N ps (defScope st))
    (hb : ∀ (cdv : Value) (A : Around) (outer : List PySem.Env) (s : Shared) (H : Hp) (E : XK), Room k (A.deeper (envOfC qual (defScope st) s.heap.objs.size f cdv)) → SEs cad (cxOf (L2.CX P w) P w K mg base N qual (defScope st) f cdv A outer s H E) (wOut E) true (defBody st) body) :
    FnOk P w K mg base (L2.CX P w) (k + 1) f fd ps (spQ K cad ps.length (mQ N.length body)) := by
  refine F.okX S (fun vs H Q E h => h.1) (fun cdv A outer s H vs Q E hr h => ⟨_, hb cdv A outer s H E hr, ?_⟩)
  obtain ⟨hl, g, M, ds, kd, wk, rs, h⟩ := h
  have wk' : WOk K cad g.in H M := WOk.less (g := g) (g' := g.in) rfl rfl (fun a z => (in_A g a).mp z) wk
  refine ⟨g.in, ini N.length ds, M, ini_inv kd.in wk' (Reps.less (g := g) (g' := g.in) rfl (fun a z => (in_A g a).mp z) rs), ?_⟩
  have back : ∀ {g' : Gh} {H' : Hp}, Gr true g.in g' H H' → ∀ a, g.A a ↔ g'.fr.A a := fun {g' H'} r a => by
    rw [fr_A r a]
    have e := (r.qg rfl)
    have ew : g'.W a ↔ g.W a := by
      unfold Gh.W
      rw [e.1, e.2]
      rfl
    unfold Gh.A
    rw [ew]
  unfold mQ at h
  cases hf : body M (ini N.length ds) with
  | next ρ' M' =>
    rw [hf] at h
    exact fun σ' H' g' r I' => h _ H' (gr_ex r) .non
  | ret d M' =>
    rw [hf] at h
    exact fun v H' g' r k' w' rv => h v H' (gr_ex r) (Rep.same (g := g'.fr) (g' := g) (r.qg rfl).1.symm (back r) rv)
  | exc x ρ' M' =>
    rw [hf] at h
    exact fun σ' H' g' c dd r I' rx => h H' c dd (gr_ex r) (XRep.less (g := g'.fr) (g' := g) (r.qg rfl).1.symm (fun a z => (back r a).mp z) rx)
  | brk ρ' M' => rw [hf] at h; exact False.elim h
  | cont ρ' M' => rw [hf] at h; exact False.elim h
  | bad => rw [hf] at h; exact False.elim h
theorem ok_g {x qual : Str} {st : Stmt} {f : Addr} {fd : FuncData} {N ps : List Str} {k : Nat} {body : SF} (F : Fun K x qual st f fd) (S : FnScope N ps (defScope st))
    (hb : ∀ (cdv : Value) (A : Around) (outer : List PySem.Env) (s : Shared) (H : Hp) (E : XK), Room k (A.deeper (envOfC qual (defScope st) s.heap.objs.size f cdv)) → SEs cad (cxOf (L2.CX P w) P w K mg base N qual (defScope st) f cdv A outer s H E) (wOut E) false (defBody st) body) :
    FnOk P w K mg base (L2.CX P w) (k + 1) f fd ps (spG K cad ps.length (mG N.length body)) := by
  refine F.okX S (fun vs H Q E h => h.1) (fun cdv A outer s H vs Q E hr h => ⟨_, hb cdv A outer s H E hr, ?_⟩)
  obtain ⟨hl, g, M, ds, kd, wk, rs, h⟩ := h
  have wk' : WOk K cad g.in H M := WOk.less (g := g) (g' := g.in) rfl rfl (fun a z => (in_A g a).mp z) wk
  refine ⟨g.in, ini N.length ds, M, ini_inv kd.in wk' (Reps.less (g := g) (g' := g.in) rfl (fun a z => (in_A g a).mp z) rs), ?_⟩
  let gb : Gh → Gh := fun g' => { tbl := g'.tbl, ow := g'.ow, Lc := g.Lc, Lo := g.Lo }
  have gc : ∀ {g' : Gh} {H' : Hp}, Gr false g.in g' H H' → Gc g (gb g') H H' := fun {g' H'} r => ⟨fun a o h n => r.keep a o h n fun z => z, r.dom, r.tbl, r.W, r.nW, rfl, rfl⟩
  have eA : ∀ {g' : Gh} {H' : Hp}, Gr false g.in g' H H' → ∀ a, (gb g').A a ↔ g'.fr.A a := fun {g' H'} r a => by
    rw [fr_A r a]
    exact Iff.rfl
  have kk : ∀ {g' : Gh} {H' : Hp}, Gr false g.in g' H H' → Kd g'.fr H' → Kd (gb g') H' := fun {g' H'} r k' => by
    have nw : ∀ a, (g.Lc a ∨ g.Lo a) → ¬ g'.W a := fun a z y => by
      have : g'.fr.Lc a := by
        show g'.Lc a
        rw [show g'.Lc = g.in.Lc from r.Lc]
        exact z
      exact (k'.lc a this).1 y
    exact ⟨fun a z => k'.ob a ((eA r a).mp z), fun a z => nw a (.inr z), fun a z => ⟨nw a (.inl z), (kd.lc a z).2⟩⟩
  unfold mG at h
  cases hf : body M (ini N.length ds) with
  | next ρ' M' =>
    rw [hf] at h
    exact fun σ' H' g' r I' => h _ H' (gb g') (gc r) (kk r I'.kd.fr) (WOk.less (g := g'.fr) (g' := gb g') rfl rfl (fun a z => (eA r a).mp z) I'.wok.fr) .non
  | ret d M' =>
    rw [hf] at h
    exact fun v H' g' r k' w' rv => h v H' (gb g') (gc r) (kk r k') (WOk.less (g := g'.fr) (g' := gb g') rfl rfl (fun a z => (eA r a).mp z) w') (Rep.same (g := g'.fr) (g' := gb g') rfl (eA r) rv)
  | exc x ρ' M' =>
    rw [hf] at h
    exact fun σ' H' g' c dd r I' rx => h H' (gb g') c dd (gc r) (kk r I'.kd.fr) (WOk.less (g := g'.fr) (g' := gb g') rfl rfl (fun a z => (eA r a).mp z) I'.wok.fr) (XRep.less (g := g'.fr) (g' := gb g') rfl (fun a z => (eA r a).mp z) rx)
  | brk ρ' M' => rw [hf] at h; exact False.elim h
  | cont ρ' M' => rw [hf] at h; exact False.elim h
  | bad => rw [hf] at h; exact False.elim h
end
/-! ### calls of defs -/
def qCall (m : Mo → List Dat → Out Dat) (as : QA) : QF := fun M ρ => (as M ρ).bind fun ds => m M ds
section
variable {X : Cx} {cad : Cad} {W : WX} {q : Bool} {a b e : Expr} {es : List Expr} {pos p : Pos} {x : Str} {k : Nat} {f : Addr} {fd : FuncData} {ps : List Str}
theorem qe_call {m : Mo → List Dat → Out Dat} {as : QA} (tk : Takes X W) (F : FnOk X.prog X.w X.K X.mg X.base (L2.CX X.prog X.w) k f fd ps (spQ X.K cad ps.length m)) (hr : Room k X.A) (hg : Gl X x) (hm : X.mg x = some (.ref f)) (hk : PySem.W.keepIn X.K (.ref f) = true) (hb : Binds X.K fd ps [])
    (ha : QAe cad X W (e :: es) as) (hl : (e :: es).length = ps.length) (hd : (x == ("__debug__" : Str)) = false) (hs : (e :: es).all nst = true) (hn : ∀ M ρ ds, as M ρ = .ok ds → ds.length = (e :: es).length) : QE cad X W (.Call (.Name x p) (e :: es) [] pos) (qCall m as) := by
  have hs' := hs
  rw [List.all_cons, Bool.and_eq_true] at hs'
  refine PE.weak (pe_callS (E := fun σ => WE W σ) F hr hg hm hk hb (fun σ => passAt tk σ) ha hd (star1 hs'.1 es) (star_any es hs'.2)) fun σ H Q ⟨g, ρ, M, I, h⟩ => ?_
  refine ⟨g, ρ, M, I, ?_⟩
  have h := h.bnd
  cases has : as M ρ with
  | exc x => rw [has] at h; exact h
  | bad => rw [has] at h; exact h
  | ok ds =>
    rw [has] at h
    have h : (m M ds).sat (fun d => ∀ v H', Ex H H' → Rep X.K g H' v d → Q v H') (exE X.K cad W g H σ) := h
    intro vs H1 e1 r1
    refine ⟨by rw [r1.length, hn M ρ ds has]; exact hl, g, M, ds, I.kd.ex e1, I.wok.ex e1 I.kd, r1, h.mono (fun d k v H' e' r' => k v H' (e1.trans e') r') fun x k H' c dd e' r' => k H' c dd (e1.trans e') r'⟩
end
end Rf
/-! # R12: more stores: a, *b = e; a = b = e; a, b = x, y; x = [..] -/
namespace Rf
open PySem PySem.Spec PyProof.Rows L2 Evl

/-! ### a, *b = e -/
theorem sl16 {n : Nat} (h : n ≤ 16001) : n ≤ sizeLine := Nat.le_trans h (by decide)
theorem star2 {prog : Program} {w : World} {A : Around} {E : Value → Shared → Prop} {s : Shared} {l : Addr} {v0 : Value} {vs : List Value} {Q : List Value → Shared → Prop} (hh : A.handled = none) (hl : s.heap.IsList l (v0 :: vs).toArray ∨ IsTup s.heap l (v0 :: vs).toArray) (hz : vs.length ≤ 16000)
    (h : ∀ (h₂ : Heap) (tk : Nat), (∀ b o, s.heap.get? b = some o → h₂.get? b = some o) → Q [v0, .ref h₂.objs.size] { s with heap := h₂.push { cls := .type "list", data := .seq vs.toArray }, toks := tk }) : wpAny (model prog w) A (unpackItems (.ref l) 2 (some 1)) Q E s := by
  have hll : l < s.heap.objs.size := by
    rcases hl with ⟨o, ho, _⟩ | ⟨o, ho, _⟩ <;> exact Heap.lt_size ho
  have hlt : l ≠ s.heap.objs.size := Nat.ne_of_lt hll
  have hsz : (v0 :: vs).toArray.size = vs.length + 1 := by simp
  have hb : (v0 :: vs).toArray.size ≤ sizeLine := sl16 (by rw [hsz]; omega)
  have hd : (v0 :: vs).toArray.toList.drop 1 = vs := by simp
  have ht : ((v0 :: vs).toArray.toList.drop 0).take 1 = [v0] := by simp
  have fin : ∀ (h₂ : Heap) (tk : Nat), (∀ b o, b ≠ s.heap.objs.size → s.heap.get? b = some o → h₂.get? b = some o) → wpAny (model prog w) A (newList vs >>= fun d => pure ([v0] ++ [d] ++ [])) Q E { s with heap := h₂, toks := tk } := fun h₂ tk k => by
    refine wpAny_bind (wpAny_newObj_type (wpAny_pure ?_) (sl16 (by simp; omega)))
    exact h h₂ tk fun b o e => k b o (Nat.ne_of_lt (Heap.lt_size e)) e
  unfold unpackItems
  refine wpAny_bind ?_
  unfold notIterableAtAll
  rcases hl with hl | hl
  · refine wpAny_bind (wpAny_specialOf hl.typeIs slot_list_iter.lookup (wpAny_pure ?_))
    simp only [Bool.false_eq_true, if_false]
    refine wpAny_bind (wpAny_holding (wpAny_pyIter_list hl ?_))
    refine wpAny_bind (wpAny_holding (PySem.W.kun_draw hlt 1 0 _ _ ⟨_, Heap.get?_push_size _ rfl, rfl, rfl⟩ (hl.push _) (by rw [hsz]; omega) fun h₁ i1 b1 => ?_))
    have hl₁ := (hl.push _).extBut b1.extBut hlt
    obtain ⟨oi, hoi, _⟩ := id i1
    obtain ⟨ol, hol, _⟩ := id hl₁
    rw [ht]
    refine wpAny_bind (wpAny_holding (PySem.W.kun_collect (s := { s with heap := h₁ }) (T := "list_iterator") (.inr (.inr (.inl rfl))) (Walks.list (A := A.in1) hh s.heap.objs.size l hlt (v0 :: vs).toArray) (fun j u st => st.1.typeIs) (k := 1) (by rw [hsz]; omega) ⟨i1, hl₁⟩ (Heap.lt_size hoi) (Heap.lt_size hol) (fun h₂ tk hk => ?_) hb))
    rw [hd]
    show wpAny _ _ (if vs.length < 0 then _ else newList (vs.take (vs.length - 0)) >>= fun d => pure ([v0] ++ [d] ++ vs.drop (vs.length - 0))) _ _ _
    rw [if_neg (Nat.not_lt_zero _), Nat.sub_zero, List.take_length, List.drop_length]
    exact fin h₂ tk fun b o ne e => hk b o ne (b1.extBut b o ne (Heap.get?_push_of_some _ e))
  · refine wpAny_bind (wpAny_specialOf hl.typeIs slot_tuple_iter.lookup (wpAny_pure ?_))
    simp only [Bool.false_eq_true, if_false]
    refine wpAny_bind (wpAny_holding (iter_tuple hl ?_))
    refine wpAny_bind (wpAny_holding (draw_tuple hlt 1 0 _ _ ⟨_, Heap.get?_push_size _ rfl, rfl, rfl⟩ (hl.push _) (by rw [hsz]; omega) fun h₁ i1 b1 => ?_))
    have hl₁ : IsTup h₁ l (v0 :: vs).toArray := (hl.push _).extBut b1.extBut hlt
    obtain ⟨oi, hoi, _⟩ := id i1
    obtain ⟨ol, hol, _⟩ := id hl₁
    rw [ht]
    refine wpAny_bind (wpAny_holding (PySem.W.kun_collect (s := { s with heap := h₁ }) (T := "tuple_iterator") (.inr (.inr (.inr rfl))) (Walks.tuple (A := A.in1) hh s.heap.objs.size l hlt (v0 :: vs).toArray) (fun j u st => st.1.typeIs) (k := 1) (by rw [hsz]; omega) ⟨i1, hl₁⟩ (Heap.lt_size hoi) (Heap.lt_size hol) (fun h₂ tk hk => ?_) hb))
    rw [hd]
    show wpAny _ _ (if vs.length < 0 then _ else newList (vs.take (vs.length - 0)) >>= fun d => pure ([v0] ++ [d] ++ vs.drop (vs.length - 0))) _ _ _
    rw [if_neg (Nat.not_lt_zero _), Nat.sub_zero, List.take_length, List.drop_length]
    exact fin h₂ tk fun b o ne e => hk b o ne (b1.extBut b o ne (Heap.get?_push_of_some _ e))
def gStar (K : PySem.W.Frag) (i j : Nat) : TG := fun v σ H Q => ∃ a v0 us, v = .ref a ∧ (SqL K H a (v0 :: us) ∨ SqT K H a (v0 :: us)) ∧ us.length ≤ 16000 ∧ ∀ D, H D = none → Q ((σ.set i (some v0)).set j (some (.ref D))) (upd H D (.lst us))
def LocS (X : Cx) (j : Nat) (x : Str) : Prop := X.N[j]? = some x ∧ Loc X.env.scope x ∧ (X.fn x = true ∨ X.env.scope.names.lookup x = some .local)
theorem pg_star {X : Cx} {i j k : Nat} {x y : Str} {px py ps pos : Pos} (hc : X.calm = true) (hN : X.N.Nodup) (hx : LocS X i x) (hy : LocS X j y) : PG X (.Tuple [.Name x px, .Starred (.Name y py) ps] k pos) (gStar X.K i j) := by
  refine ⟨fun pins s σ H v u Q I r h => ?_⟩
  obtain ⟨a, v0, us, rfl, hq, hz, q⟩ := h
  cases r
  have e1 : assign (.Tuple [.Name x px, .Starred (.Name y py) ps] k pos) X.env (.ref a) = (do standAt pos; unpack (.ref a) (assignEach [.Name x px, .Starred (.Name y py) ps] X.env)) := by with_unfolding_all rfl
  have e2 : assignEach [.Name x px, .Starred (.Name y py) ps] X.env = [(false, assign (.Name x px) X.env), (true, assign (.Name y py) X.env)] := by with_unfolding_all rfl
  rw [e1, e2]
  refine wpAny_bind (wpAny_standAt ?_)
  unfold unpack
  obtain ⟨w0, ws, hlw, rv0, rvs⟩ : ∃ w0 ws, (s.heap.IsList a (w0 :: ws).toArray ∨ IsTup s.heap a (w0 :: ws).toArray) ∧ RelV v0 w0 ∧ Vals us ws := by
    rcases hq with hq | hq
    · obtain ⟨its, rv, p, _⟩ := I.list hq
      cases rv with
      | cons r t => exact ⟨_, _, .inl p.isList, r, t⟩
    · obtain ⟨its, rv, p, _⟩ := I.tuple hq
      cases rv with
      | cons r t => exact ⟨_, _, .inr p, r, t⟩
  refine wpAny_bind (wpAny_holding (star2 (I.ok.hd hc) hlw (by rw [← rvs.length]; exact hz) fun h₂ tk hk => ?_))
  have I2 : L2.Inv X pins σ H { s with heap := h₂, toks := tk } := I.kept (t' := tk) hk
  have I3 := I2.lnew (t' := tk) rvs (sl16 (by omega))
  refine assignInOrder_cons (wpAny_assign_Name (store_ok I3 hN hx.1 hx.2.1 rv0 (fun s4 I4 => ?_) hx.2.2))
  refine assignInOrder_cons (wpAny_assign_Name (store_ok I4 hN hy.1 hy.2.1 (v := .ref h₂.objs.size) rfl (fun s5 I5 => assignInOrder_nil ?_) hy.2.2))
  exact ⟨_, _, I5, q _ I2.fresh⟩
section
variable {X : Cx} {cad : Cad} {W : WX} {q : Bool} {e : Expr} {pos : Pos}
def sStar (i j : Nat) (f : GF) : SF := fun M ρ => (f M ρ).then ρ fun d M' => match d with
  | .list (d0 :: ds) => if ds.length ≤ 16000 then .next ((ρ.set i (some (.dat d0))).set j (some (.dat (.list ds)))) M' else .bad
  | .tuple (d0 :: ds) => if ds.length ≤ 16000 then .next ((ρ.set i (some (.dat d0))).set j (some (.dat (.list ds)))) M' else .bad
  | _ => .bad
theorem se_star {i j k : Nat} {x y : Str} {px py ps tp : Pos} {f : GF} (hc : X.calm = true) (hN : X.N.Nodup) (hx : LocS X i x) (hy : LocS X j y) (he : GE cad X W q e f) (hs : swapsWithSole [.Tuple [.Name x px, .Starred (.Name y py) ps] k tp] e pos.line X.env = pure false) (hw : swappedStores [.Tuple [.Name x px, .Starred (.Name y py) ps] k tp] e X.env = pure none) :
    SE cad X W q (.Assign [.Tuple [.Name x px, .Starred (.Name y py) ps] k tp] e pos) (sStar i j f) := by
  refine PS.weak (ps_asg he (pg_star hc hN hx hy) hs hw (by with_unfolding_all rfl)) fun D σ H ⟨g, ρ, M, I, z⟩ => ?_
  refine tE.go I (then_sat (σ := σ) z) fun d M' v H' g' kk r I' rv => ?_
  have fin : ∀ {a : Addr} {v0 : V} {us : List V} {d0 : Dat} {ds : List Dat}, v = .ref a → (SqL X.K H' a (v0 :: us) ∨ SqT X.K H' a (v0 :: us)) → Rep X.K g' H' v0 d0 → Reps X.K g' H' us ds → (if ds.length ≤ 16000 then SOut.next ((ρ.set i (some (.dat d0))).set j (some (.dat (.list ds)))) M' else .bad).sat (sN X.K cad q D.nx g H) (sR X.K cad q D.rt g H) (sN X.K cad q D.bk g H) (sN X.K cad q D.ct g H) (sX X.K cad W q g H) → gStar X.K i j v σ H' D.nx := fun {a v0 us d0 ds} ev hq r0 rs kk => by
    split at kk
    · next hz =>
      refine ⟨a, v0, us, ev, hq, by rw [rs.length]; exact hz, fun p np => ?_⟩
      have e1 := Ex.new (o := .lst us) np
      have I2 := I'.ex e1
      refine kk _ _ g' (r.trans (Gr.ex e1)) ((I2.set (r0.ex e1 I'.kd)).set (.lst (.inl ⟨.inl upd_same, I'.kd.fresh np⟩) (rs.ex e1 I'.kd)))
    · exact False.elim kk
  split at kk
  · obtain ⟨a, us, ev, s1, t1⟩ := wr_lst rv.weak
    cases t1 with
    | cons r0 rs => exact fin ev (.inl s1) r0 rs kk
  · obtain ⟨a, us, ev, s1, t1⟩ := wr_tup rv.weak
    cases t1 with
    | cons r0 rs => exact fin ev (.inr s1) r0 rs kk
  · exact False.elim kk
/-! ### a = b = e -/
def sSet2 (i j : Nat) (f : GF) : SF := fun M ρ => (f M ρ).then ρ fun d M' => .next ((ρ.set i (some (.dat d))).set j (some (.dat d))) M'
theorem se_asg2 {i j : Nat} {x y : Str} {px py : Pos} {f : GF} (hN : X.N.Nodup) (hx : LocS X i x) (hy : LocS X j y) (he : GE cad X W q e f) (hw : swappedStores [.Name x px, .Name y py] e X.env = pure none) : SE cad X W q (.Assign [.Name x px, .Name y py] e pos) (sSet2 i j f) := by
  refine PS.weak (ps_asg2 he (pg_name hN hx.1 hx.2.1 hx.2.2) (pg_name hN hy.1 hy.2.1 hy.2.2) (by with_unfolding_all rfl) hw) fun D σ H ⟨g, ρ, M, I, z⟩ => ?_
  exact tE.go I (then_sat (σ := σ) z) fun d M' v H' g' kk r I' rv => kk _ H' g' r ((I'.set rv).set rv)
/-! ### a, b = x, y; a, b, c = x, y, z: local names, stored from the right -/
theorem rev_stores {pins : List (Addr × Obj)} {H : Hp} {Q : Unit → Shared → Prop} (hN : X.N.Nodup) : ∀ {xs : List Str} {js : List Nat} {vs : List V} {us : List Value} {σ : L2.St} {s : Shared}, xs.length = js.length → Vals vs us → us.length = js.length → (∀ (n : Nat) (x : Str) (j : Nat), xs[n]? = some x → js[n]? = some j → X.N[j]? = some x ∧ X.env.scope.names.lookup x = some .local) → L2.Inv X pins σ H s →
    (∀ s', L2.Inv X pins (sets σ js vs) H s' → Q () s') → wpAny (model X.prog X.w) X.A (assignInOrder (xs.map fun n => bindName X.env n) us) Q X.xe s
  | [], [], _, [], σ, s, _, .nil, _, _, I, h => assignInOrder_nil (h s I)
  | [], [], _, _ :: _, _, _, _, _, e, _, _, _ => nomatch e
  | [], _ :: _, _, _, _, _, e, _, _, _, _, _ => nomatch e
  | _ :: _, [], _, _, _, _, e, _, _, _, _, _ => nomatch e
  | x :: xs, j :: js, _, [], _, _, _, .nil, e, _, _, _ => nomatch e
  | x :: xs, j :: js, _, _ :: _, σ, s, e1, .cons r t, e2, hn, I, h => by
    obtain ⟨h1, h2⟩ := hn 0 x j rfl rfl
    refine assignInOrder_cons (wpAny_bindName (store_ok I hN h1 (.inl h2) r (fun s2 I2 => ?_) (.inr h2)))
    exact rev_stores hN (Nat.succ.inj e1) t (Nat.succ.inj e2) (fun n x j a b => hn (n + 1) x j a b) I2 h
theorem sets_append (σ : L2.St) : ∀ (js : List Nat) (vs : List V) (ks : List Nat) (ws : List V), js.length = vs.length → sets σ (js ++ ks) (vs ++ ws) = sets (sets σ js vs) ks ws := by
  intro js
  induction js generalizing σ with
  | nil =>
    intro vs ks ws e
    cases vs with
    | nil => rfl
    | cons v vs => cases e
  | cons j js ih =>
    intro vs ks ws e
    cases vs with
    | nil => cases e
    | cons v vs => exact ih (σ.set j (some v)) vs ks ws (Nat.succ.inj e)
theorem sets_comm (j : Nat) (v : V) : ∀ (js : List Nat) (vs : List V) (σ : L2.St), j ∉ js → (sets σ js vs).set j (some v) = sets (σ.set j (some v)) js vs
  | [], _, _, _ => by unfold sets; rfl
  | _ :: _, [], _, _ => by unfold sets; rfl
  | k :: js, w :: vs, σ, h => by
    show (sets (σ.set k (some w)) js vs).set j (some v) = sets ((σ.set j (some v)).set k (some w)) js vs
    rw [sets_comm j v js vs _ fun z => h (List.mem_cons_of_mem _ z), List.set_comm _ _ (fun z => h (by rw [z]; exact List.mem_cons_self))]
theorem sets_rev : ∀ (js : List Nat) (vs : List V) (σ : L2.St), js.Nodup → js.length = vs.length → sets σ js.reverse vs.reverse = sets σ js vs
  | [], [], _, _, _ => rfl
  | [], _ :: _, _, _, e => nomatch e
  | _ :: _, [], _, _, e => nomatch e
  | j :: js, v :: vs, σ, nd, e => by
    rw [List.nodup_cons] at nd
    rw [List.reverse_cons, List.reverse_cons, sets_append _ _ _ _ _ (by rw [List.length_reverse, List.length_reverse]; exact Nat.succ.inj e), sets_rev js vs σ nd.2 (Nat.succ.inj e)]
    show (sets σ js vs).set j (some v) = sets (σ.set j (some v)) js vs
    exact sets_comm j v js vs σ nd.1
theorem vals_rev {vs : List V} {us : List Value} (r : Vals vs us) : Vals vs.reverse us.reverse := by
  induction r with
  | nil => exact .nil
  | cons h t ih =>
    rw [List.reverse_cons, List.reverse_cons]
    exact Vals.append ih (.cons h .nil)
def tPN (js : List Nat) (ta : TA) : TS := fun D σ H => ta σ H fun vs H1 => vs.length = js.length ∧ D.nx (sets σ js vs) H1
theorem ps_pn {ts es : List Expr} {xs : List Str} {js : List Nat} {ta : TA} {kt k2 : Nat} {pt p2 : Pos} (hc : X.calm = true) (hN : X.N.Nodup) (hnd : js.Nodup) (hl : xs.length = js.length) (h3 : js.length ≤ 3) (hn : ∀ (n : Nat) (x : Str) (j : Nat), xs[n]? = some x → js[n]? = some j → X.N[j]? = some x ∧ X.env.scope.names.lookup x = some .local) (ha : PA X es ta)
    (hw : swappedStores [.Tuple ts kt pt] (.Tuple es k2 p2) X.env = pure (some xs)) (hs : swapsWithSole [.Tuple ts kt pt] (.Tuple es k2 p2) pos.line X.env = pure false) : PS X (.Assign [.Tuple ts kt pt] (.Tuple es k2 p2) pos) (tPN js ta) := by
  refine ⟨fun pins s σ H D I h => ?_⟩
  rw [exec_Assign_arm]
  refine wpAny_bind (wpAny_standAt ?_)
  rw [hs]
  refine wpAny_bind (wpAny_pure ?_)
  rw [if_neg (by decide)]
  refine wpAny_bind (Tuple_ (thn (ha.run _ pins s σ H _ I h) fun us s1 ⟨vs, H1, I1, r1, e1, q1⟩ => ?_))
  have hu : us.length = js.length := by
    rw [← r1.length]
    exact e1
  refine wpAny_newObj_type ?_ (Nat.le_trans (by simp; omega) (show 3 ≤ sizeLine by decide))
  have I2 : L2.Inv X pins σ H1 { s1 with heap := s1.heap.push { cls := .type "tuple", data := .seq us.toArray } } := I1.kept (t' := s1.toks) fun b o z => Heap.get?_push_of_some _ z
  rw [hw]
  refine wpAny_bind (wpAny_pure ?_)
  show wpAny (model X.prog X.w) X.A (do rule "assign.swapped-stores"; let items ← unpackItems (.ref s1.heap.objs.size) xs.length none; assignInOrder (xs.reverse.map fun n => bindName X.env n) items.reverse; pure Flow.next) _ _ _
  have hz : us.toArray.size = xs.length := by
    rw [List.size_toArray, hu, hl]
  have hup := fun {Q : List Value → Shared → Prop} hQ => unpackItems_tuple (prog := X.prog) (w := X.w) (A := X.A) (E := X.xe) (s := { s1 with heap := s1.heap.push { cls := .type "tuple", data := .seq us.toArray } }) (items := us.toArray) (Q := Q) (I.ok.hd hc) (IsTup.new s1.heap _) hQ
  rw [hz] at hup
  refine wpAny_bind (wpAny_rule (wpAny_bind (hup fun h' hx' => ?_)))
  have I3 := I2.kept (h' := h') (t' := s1.toks) fun b o z => hx' b o (Nat.ne_of_lt (Heap.lt_size z)) z
  refine wpAny_bind (rev_stores hN (js := js.reverse) (vs := vs.reverse) (by rw [List.length_reverse, List.length_reverse]; exact hl) (vals_rev r1) (by rw [List.length_reverse, List.length_reverse]; exact hu) (fun n x j a b => ?_) I3 fun s4 I4 => wpAny_pure ?_)
  · have n1 := (List.getElem?_eq_some_iff.mp a).1
    have n2 := (List.getElem?_eq_some_iff.mp b).1
    rw [List.length_reverse] at n1 n2
    rw [List.getElem?_reverse n1] at a
    rw [List.getElem?_reverse n2, ← hl] at b
    exact hn _ x j a b
  · rw [sets_rev js vs σ hnd e1.symm] at I4
    exact ⟨_, H1, I4, q1⟩
def sPN (js : List Nat) (as : QA) : SF := fun M ρ => ((as M ρ).at M).then ρ fun ds M' => match tgNames js ds ρ with
  | some ρ' => .next ρ' M'
  | none => .bad
theorem se_pn {ts es : List Expr} {xs : List Str} {js : List Nat} {as : QA} {kt k2 : Nat} {pt p2 : Pos} (hc : X.calm = true) (hN : X.N.Nodup) (hnd : js.Nodup) (hl : xs.length = js.length) (h3 : js.length ≤ 3) (hn : ∀ (n : Nat) (x : Str) (j : Nat), xs[n]? = some x → js[n]? = some j → X.N[j]? = some x ∧ X.env.scope.names.lookup x = some .local) (ha : QAe cad X W es as)
    (hw : swappedStores [.Tuple ts kt pt] (.Tuple es k2 p2) X.env = pure (some xs)) (hs : swapsWithSole [.Tuple ts kt pt] (.Tuple es k2 p2) pos.line X.env = pure false) : SE cad X W q (.Assign [.Tuple ts kt pt] (.Tuple es k2 p2) pos) (sPN js as) := by
  refine PS.weak (ps_pn hc hN hnd hl h3 hn ha hw hs) fun D σ H ⟨g, ρ, M, I, z⟩ => ?_
  refine ⟨g, ρ, M, I, ?_⟩
  unfold sPN at z
  cases hf : as M ρ with
  | exc x => rw [hf] at z; exact fun H' c dd e r => z σ H' g c dd (Gr.ex e) (I.ex e) r.fr
  | bad => rw [hf] at z; exact False.elim z
  | ok ds =>
    rw [hf] at z
    intro vs H' e r
    have z : (match tgNames js ds ρ with
      | some ρ' => SOut.next ρ' M
      | none => .bad).sat (sN X.K cad q D.nx g H) (sR X.K cad q D.rt g H) (sN X.K cad q D.bk g H) (sN X.K cad q D.ct g H) (sX X.K cad W q g H) := z
    split at z
    · next ρ' e' =>
      obtain ⟨l1, I1⟩ := tgNames_go (I.ex e) r e'
      exact ⟨l1, z _ H' g (Gr.ex e) I1⟩
    · exact False.elim z
/-! ### x = [.. for ..] stored at once -/
theorem se_lcS {j : Nat} {y : Str} {py : Pos} {elt tg iter : Expr} {cpos : Pos} {scope : Scope} {own : List (Str × Nat)} {it : IF} {tgf : TgF} {js : List Nat} {tt : QT} {te : QF} {ifs : List Expr} (hc : X.calm = true) (hN : X.N.Nodup) (hy : X.N[j]? = some y) (hyl : X.env.scope.names.lookup y = some .local)
    (hsw : swapsWith (.ListComp elt [⟨tg, iter, ifs, 0⟩] scope cpos) (some (.Name y py)) pos.line X.env = pure true) (hi : QI cad X W false tg iter it) (ok : blkC X.N X.env.scope scope own = true) (hj : ∀ j ∈ js, j ∈ own.map (·.2))
    (hg : ∀ (s : Shared) (H : Hp) (C : Addr) (cl : List (Str × Addr)) (fp : List Addr), QG cad (X.blk s H scope (compEnvC scope cl C X.env) fp) tg js tgf)
    (ht : ∀ (s : Shared) (H : Hp) (C : Addr) (cl : List (Str × Addr)) (fp : List Addr), PTs (X.blk s H scope (compEnvC scope cl C X.env) fp) ifs (tQT X.K cad WF tt))
    (he : ∀ (s : Shared) (H : Hp) (C : Addr) (cl : List (Str × Addr)) (fp : List Addr), QE cad (X.blk s H scope (compEnvC scope cl C X.env) fp) WF elt te) (hs : ∀ x, foldedSetIterable iter X.env x = pure x) :
    SE cad X W q (.Assign [.Name y py] (.ListComp elt [⟨tg, iter, ifs, 0⟩] scope cpos) pos) (sSet (tgName j) (gOf (qComp it tgf (own.map (·.2)) tt te))) := by
  refine PS.weak (ps_setLc (g := tGD X.K cad js tgf) (tt := tQT X.K cad WF tt) (te := tQ X.K cad WF te) hc hN hy hyl hsw hi (blkOk_by ok) (fun s H C cl fp => hg s H C cl fp) ht (fun s H C cl fp => he s H C cl fp) hs) fun D σ H ⟨g, ρ, M, I, z⟩ => ?_
  refine lc_go hj σ H _ ⟨g, ρ, M, I, (Out.sat_at (then_sat (σ := σ) z)).mono (fun d kk v H' e r => ?_) fun x kk H' c dd e r => kk H' g c dd (Gr.ex e) (I.ex e) r⟩
  exact kk _ H' g (Gr.ex e) ((I.ex e).set r)
end
end Rf
/-! # S0: what the names of the top stand for -/
namespace Rf
open PySem PySem.Spec PyProof.Rows L2 Evl

/-- what a name of the top stands for -/
inductive GV where
  | con (d : Dat)
  | fq (n : Nat) (m : Mo → List Dat → Out Dat)
  | fg (n : Nat) (m : Mo → List Dat → GOut Dat)
  | dic (kvs : List (Str × Dat))
  | exc
  | exi (fs : List Str)
  | cls (n : Nat) (m : Mo → List Dat → GOut Dat)
/-- a method of a class -/
inductive MV where
  | q (n : Nat) (m : Mo → List Dat → Out Dat)
  | g (n : Nat) (m : Mo → List Dat → GOut Dat)
/-- what the text is read by -/
structure Tc where
  N : List Str
  sc : Scope
  G : List (Str × GV)
  B : List Str
  Ms : List (Str × List (Str × MV))
  ml : List Str
  top : Bool
def FQ (P : Program) (w : World) (K : PySem.W.Frag) (mg : Str → Option Value) (base : Heap) (cad : Cad) (k : Nat) (f : Addr) (n : Nat) (m : Mo → List Dat → Out Dat) : Prop :=
  ∃ (fd : FuncData) (ps : List Str) (j : Nat), j ≤ k ∧ ps.length = n ∧ Binds K fd ps [] ∧ FnOk P w K mg base (L2.CX P w) j f fd ps (spQ K cad ps.length m)
def FG (P : Program) (w : World) (K : PySem.W.Frag) (mg : Str → Option Value) (base : Heap) (cad : Cad) (k : Nat) (f : Addr) (n : Nat) (m : Mo → List Dat → GOut Dat) : Prop :=
  ∃ (fd : FuncData) (ps : List Str) (j : Nat), j ≤ k ∧ ps.length = n ∧ Binds K fd ps [] ∧ FnOk P w K mg base (L2.CX P w) j f fd ps (spG K cad ps.length m)
/-- what is known of the classes -/
def CadOk (K : PySem.W.Frag) (cad : Cad) : Prop := ∀ c C f, cad c = some C → f ∈ cad.fl c → Cls K C ∧ NoAttr K C f
def MVok (P : Program) (w : World) (K : PySem.W.Frag) (mg : Str → Option Value) (base : Heap) (cad : Cad) (k : Nat) (c m : Str) (v : MV) : Prop :=
  ∃ C f, cad c = some C ∧ Cls K C ∧ Meth K C m f ∧ m ∉ cad.fl c ∧ match v with
    | .q n mm => FQ P w K mg base cad k f n mm
    | .g n mm => FG P w K mg base cad k f n mm
/-- how an own exception's __init__ keeps its fields -/
def spXI (C : Addr) (fs : List Str) : Sp := fun vs H Q _ => ∃ (a : Addr) (xs : List V), vs = .ref a :: xs ∧ xs.length = fs.length ∧ H a = some (exo a C none) ∧
  ∀ (dx : Addr) (H' : Hp), H dx = none → (∀ b o, b ≠ a → H b = some o → H' b = some o) → (∀ b, H' b = none → H b = none) → H' a = some (exo a C (some dx)) → H' dx = some (exd dx (fs.zip xs).reverse) → Q .non H'
/-- a dict of the top whose keys are texts -/
def GDic (w : World) (K : PySem.W.Frag) (a : Addr) (kvs : List (Str × Dat)) : Prop := ∃ (es : Array DictEntry) (n : Nat), KDict K w a es n ∧ (kvs.map (·.1)).Nodup ∧
  ∀ x : Str, match kvs.lookup x with
    | some d => ∃ v u, PySem.W.nsIn K a x = some (some u) ∧ RelV v u ∧ ∀ g H, Rep K g H v d
    | none => PySem.W.nsIn K a x = some none
def GVok (P : Program) (w : World) (K : PySem.W.Frag) (mg : Str → Option Value) (base : Heap) (cad : Cad) (k : Nat) (x : Str) : GV → Prop
  | .con d => ∃ v u, mg x = some u ∧ RelV v u ∧ ∀ g H, Rep K g H v d
  | .fq n m => ∃ f, mg x = some (.ref f) ∧ PySem.W.keepIn K (.ref f) = true ∧ FQ P w K mg base cad k f n m
  | .fg n m => ∃ f, mg x = some (.ref f) ∧ PySem.W.keepIn K (.ref f) = true ∧ FG P w K mg base cad k f n m
  | .dic kvs => ∃ a, mg x = some (.ref a) ∧ GDic w K a kvs
  | .exc => ∃ C, mg x = some (.ref C) ∧ cad x = some C ∧ PySem.W.excIn K C He.veBase "ValueError.__new__" = true ∧ PySem.W.keepIn K (.ref C) = true ∧ PySem.W.subIn K (.ref C) (.type "BaseException") = some true ∧ PySem.W.typeIn K (.ref C) = some (.type "type")
  | .exi fs => ∃ (C fI : Addr) (fd : FuncData) (ps : List Str), mg x = some (.ref C) ∧ cad x = some C ∧ OexC K C ∧ PySem.W.findIn K (.ref C) "__init__" = some (some (.ref fI)) ∧ PySem.W.typeIn K (.ref fI) = some (.type "function") ∧ 2 ≤ k ∧ ps.length = fs.length + 1 ∧ Binds K fd ps [] ∧ FnOk P w K mg base CX0 1 fI fd ps (spXI C fs)
  | .cls n m => ∃ (C f : Addr) (fd : FuncData) (ps : List Str) (j : Nat), mg x = some (.ref C) ∧ cad x = some C ∧ Cls K C ∧ Mk K C f ∧ j + 1 ≤ k ∧ ps.length = n + 1 ∧ Binds K fd ps [] ∧ FnOk P w K mg base (L2.CX P w) j f fd ps (spG K cad ps.length m)
/-- what an except clause that names y takes of an exception of class x -/
def ExmOk (K : PySem.W.Frag) (cad : Cad) (y : Str) (tk : Str → Option Bool) : Prop := ∀ x b C, tk x = some b → cad x = some C → ∀ D, cad y = some D → PySem.W.exmOne K (.ref C) (.ref D) = some b
end Rf
/-! # R18: instances that change -/
namespace Rf
open PySem PySem.Spec PyProof.Rows L2 Evl

def putL (f : Str) (x : Fld) : List (Str × Fld) → List (Str × Fld)
  | [] => [(f, x)]
  | (g, y) :: r => if g = f then (g, x) :: r else (g, y) :: putL f x r
def Inst.put (i : Inst) (f : Str) (x : Fld) : Inst := ⟨i.cls, putL f x i.fs⟩
theorem putL_names (f : Str) (x : Fld) : ∀ gs : List (Str × Fld), (putL f x gs).map (·.1) = if f ∈ gs.map (·.1) then gs.map (·.1) else gs.map (·.1) ++ [f]
  | [] => by simp [putL]
  | (g, y) :: r => by
    have ih := putL_names f x r
    rw [putL]
    by_cases e : g = f
    · subst e
      simp
    · rw [if_neg e, List.map_cons, ih]
      by_cases h : f ∈ r.map (·.1)
      · rw [if_pos h, if_pos (by simp [h])]
        rfl
      · rw [if_neg h, if_neg (by
          rw [List.map_cons, List.mem_cons]
          rintro (z | z)
          · exact e z.symm
          · exact h z)]
        rfl
theorem putL_nodup {f : Str} {x : Fld} {gs : List (Str × Fld)} (h : (gs.map (·.1)).Nodup) : ((putL f x gs).map (·.1)).Nodup := by
  rw [putL_names]
  split
  · exact h
  · next n =>
    rw [List.nodup_append]
    refine ⟨h, by simp, fun a ha b hb e => ?_⟩
    subst e
    rw [List.mem_singleton] at hb
    subst hb
    exact n ha
theorem putF_same {f : Str} {v : V} : ∀ {fs : List (Str × V)}, fs.lookup f = some v → putF f v fs = fs
  | [], h => nomatch h
  | (g, y) :: r, h => by
    rw [List.lookup_cons] at h
    rw [show putF f v ((g, y) :: r) = (if g = f then (g, v) :: r else (g, y) :: putF f v r) from rfl]
    by_cases e : g = f
    · subst e
      simp at h
      rw [if_pos rfl, h]
    · have ne : (f == g) = false := by simpa using fun z => e z.symm
      rw [ne] at h
      rw [if_neg e, putF_same h]
section
variable {K : PySem.W.Frag} {cad : Cad} {W : WX} {g g' : Gh} {H H' : Hp} {σ : L2.St} {ρ : Env} {M : Mo} {h : Nat} {f : Str} {v : V} {fl : Fld}
theorem FsRep.put (hk : ∀ f' v' fl', f' ≠ f → FldRep K cad g H h f' v' fl' → FldRep K cad g' H' h f' v' fl') (new : FldRep K cad g' H' h f v fl) : ∀ {fs : List (Str × V)} {gs : List (Str × Fld)}, FsRep K cad g H h fs gs → (gs.map (·.1)).Nodup → FsRep K cad g' H' h (putF f v fs) (putL f fl gs)
  | _, _, .nil, _ => .cons new .nil
  | _, _, .cons (f := f') (v := v') (fl := fl') (fs := fs) (gs := gs) z t, nd => by
    rw [show putF f v ((f', v') :: fs) = (if f' = f then (f', v) :: fs else (f', v') :: putF f v fs) from rfl, putL]
    rw [List.map_cons, List.nodup_cons] at nd
    by_cases e : f' = f
    · subst e
      rw [if_pos rfl, if_pos rfl]
      refine .cons new ?_
      have go : ∀ {fs : List (Str × V)} {gs : List (Str × Fld)}, FsRep K cad g H h fs gs → f' ∉ gs.map (·.1) → FsRep K cad g' H' h fs gs := fun {fs gs} t => by
        induction t with
        | nil => exact fun _ => .nil
        | cons z _ ih =>
          intro n
          rw [List.map_cons, List.mem_cons, not_or] at n
          exact .cons (hk _ _ _ (fun q => n.1 q.symm) z) (ih n.2)
      exact go t nd.1
    · rw [if_neg e, if_neg e]
      exact .cons (hk _ _ _ e z) (FsRep.put hk new t nd.2)
/-- only the field f of h changes -/
structure Chg (M : Mo) (g g' : Gh) (H H' : Hp) (h : Nat) (f : Str) : Prop where
  gc : Gc g g' H H'
  kd : Kd g' H'
  tbl : g'.tbl = g.tbl
  ow : ∀ a p, g.ow a = some p → g'.ow a = some p
  oth : ∀ a p, g.ow a = some p → p ≠ (h, f) → H' a = H a
  ins : ∀ (k : Nat) (a : Addr) (i : Inst), g.tbl[k]? = some a → M[k]? = some i → i.cls ≠ "" → k ≠ h → H' a = H a
  nt : ∀ (k : Nat) (a : Addr) (i : Inst), g.tbl[k]? = some a → M[k]? = some i → i.cls ≠ "" → ∀ p, g'.ow a ≠ some p
theorem DicAt.chg {l : Addr} (r : Gr false g g' H H') (k : Kd g H) (e : H' l = H l) : ∀ {n : Bool} {kvs : List (Dat × Dat)}, DicAt K cad g H l n kvs → DicAt K cad g' H' l n kvs
  | false, _, ⟨kv, h1, h2, h3⟩ => ⟨kv, e.trans h1, h2, h3.gr r k⟩
  | true, _, ⟨o, xs, vs, h1, h2, h3, h4, h5, h6⟩ => ⟨o, xs, vs, e.trans h1, h2, h3, h4.gr r k, h5, h6.gr r k⟩
theorem FldRep.chg (c : Chg M g g' H H' h f) (k : Kd g H) {h' : Nat} {f' : Str} {v' : V} (ne : (h', f') ≠ (h, f)) : ∀ {fl' : Fld}, FldRep K cad g H h' f' v' fl' → FldRep K cad g' H' h' f' v' fl'
  | .dat _, z => Rep.gr c.gc.gr k z
  | .lst _ _, ⟨l, us, h1, h2, h3, h4, h5⟩ => ⟨l, us, h1, (c.oth l _ h3 ne).trans h2, c.ow l _ h3, h4.gr c.gc.gr k, c.gc.gr.tb h5⟩
  | .dic _ _, ⟨l, h1, h2, h3⟩ => ⟨l, h1, c.ow l _ h2, h3.chg c.gc.gr k (c.oth l _ h2 ne)⟩
theorem WOk.chg (w : WOk K cad g H M) (k : Kd g H) (c : Chg M g g' H H' h f) {a : Addr} {i : Inst} (ha : g.tbl[h]? = some a) (hi : M[h]? = some i) (hne : i.cls ≠ "") (hf : f ∈ cad.fl i.cls) {C dx : Addr} {fs : List (Str × V)} (hC : cad i.cls = some C) (R : FsRep K cad g H h fs i.fs)
    (e' : H' a = some (.ins C dx (putF f v fs))) (new : FldRep K cad g' H' h f v fl) : WOk K cad g' H' (M.set h (i.put f fl)) where
  len := by rw [c.tbl, List.length_set]; exact w.len
  inj := by rw [c.tbl]; exact w.inj
  ins := fun h' a' i' ha' hi' hc' => by
    rw [c.tbl] at ha'
    by_cases z : h' = h
    · subst z
      rw [ha] at ha'
      cases ha'
      rw [List.getElem?_set_self (List.getElem?_eq_some_iff.mp hi).1] at hi'
      cases hi'
      exact ⟨C, dx, _, hC, e', R.put (fun f' v' fl' ne z => z.chg c k fun q => ne (congrArg Prod.snd q)) new (w.nd _ i hi)⟩
    · rw [List.getElem?_set_ne (Ne.symm z)] at hi'
      obtain ⟨C', dx', fs', c1, c2, c3⟩ := w.ins h' a' i' ha' hi' hc'
      refine ⟨C', dx', fs', c1, (c.ins h' a' i' ha' hi' hc' z).trans c2, ?_⟩
      have go : ∀ {fs : List (Str × V)} {gs : List (Str × Fld)}, FsRep K cad g H h' fs gs → FsRep K cad g' H' h' fs gs := fun {fs gs} t => by
        induction t with
        | nil => exact .nil
        | cons y _ ih => exact .cons (y.chg c k fun q => z (congrArg Prod.fst q)) ih
      exact go c3
  nd := fun h' i' hi' => by
    by_cases z : h' = h
    · subst z
      rw [List.getElem?_set_self (List.getElem?_eq_some_iff.mp hi).1] at hi'
      cases hi'
      exact putL_nodup (w.nd _ i hi)
    · rw [List.getElem?_set_ne (Ne.symm z)] at hi'
      exact w.nd h' i' hi'
  fd := fun h' i' hi' f' hf' => by
    by_cases z : h' = h
    · subst z
      rw [List.getElem?_set_self (List.getElem?_eq_some_iff.mp hi).1] at hi'
      cases hi'
      have hf' : f' ∈ (putL f fl i.fs).map (·.1) := hf'
      rw [putL_names] at hf'
      split at hf'
      · exact w.fd _ i hi f' hf'
      · rcases List.mem_append.mp hf' with y | y
        · exact w.fd _ i hi f' y
        · rw [List.mem_singleton] at y
          rw [y]
          exact hf
    · rw [List.getElem?_set_ne (Ne.symm z)] at hi'
      exact w.fd h' i' hi' f' hf'
  tw := fun k' a' i' ha' hi' hc' => by
    rw [c.tbl] at ha'
    have : ∃ i0, M[k']? = some i0 ∧ i0.cls ≠ "" := by
      by_cases z : k' = h
      · subst z
        exact ⟨i, hi, hne⟩
      · rw [List.getElem?_set_ne (Ne.symm z)] at hi'
        exact ⟨i', hi', hc'⟩
    obtain ⟨i0, m1, m2⟩ := this
    cases hz : g'.ow a' with
    | none => rfl
    | some p => exact absurd hz (c.nt k' a' i0 ha' m1 m2 p)
  dm := fun h' i' hi' hc' => by
    by_cases z : h' = h
    · subst z
      rw [List.getElem?_set_self (List.getElem?_eq_some_iff.mp hi).1] at hi'
      cases hi'
      exact absurd hc' hne
    · rw [List.getElem?_set_ne (Ne.symm z)] at hi'
      exact w.dm h' i' hi' hc'
  nc := w.nc
theorem tbl_W {a : Addr} (ha : g.tbl[h]? = some a) : g.W a := .inl (List.mem_of_getElem? ha)
/-- f of h becomes data -/
theorem chg_dat (k : Kd g H) (w : WOk K cad g H M) {a : Addr} {i : Inst} (ha : g.tbl[h]? = some a) (hi : M[h]? = some i) (hc : i.cls ≠ "") {C dx : Addr} {fs' : List (Str × V)} : Chg M g g H (upd H a (.ins C dx fs')) h f where
  gc := ⟨fun b o hb n => by rw [upd_ne (fun z => by subst z; exact n (tbl_W ha))]; exact hb, fun b hb => by
    by_cases z : b = a
    · subst z
      rw [upd_same] at hb
      cases hb
    · rw [upd_ne z] at hb
      exact hb, ⟨[], by simp⟩, fun _ z => z, fun _ z => .inl z, rfl, rfl⟩
  kd := k.upd trivial
  tbl := rfl
  ow := fun _ _ z => z
  oth := fun b p hb _ => upd_ne fun z => by
    subst z
    rw [w.tw h _ i ha hi hc] at hb
    cases hb
  ins := fun j b i' hb _ _ ne => upd_ne fun z => by
    subst z
    exact ne (w.inj _ _ _ hb ha)
  nt := fun j b i' hb hj hcj p z => by
    rw [w.tw j b i' hb hj hcj] at z
    cases z
/-- a list or dict of one's own becomes f of h -/
def Gh.own (g : Gh) (l : Addr) (h : Nat) (f : Str) : Gh := { g with ow := fun b => if b = l then some (h, f) else g.ow b }
theorem own_W {l a : Addr} (hl : l ∈ g.tbl) : (g.own l h f).W a ↔ g.W a := by
  constructor
  · rintro (z | z)
    · exact .inl z
    · by_cases y : a = l
      · subst y
        exact .inl hl
      · have z : (if a = l then some (h, f) else g.ow a) ≠ none := z
        rw [if_neg y] at z
        exact .inr z
  · rintro (z | z)
    · exact .inl z
    · refine .inr ?_
      show (if a = l then some (h, f) else g.ow a) ≠ none
      split
      · exact fun q => nomatch q
      · exact z
theorem chg_own (k : Kd g H) (w : WOk K cad g H M) {a l : Addr} {n : Nat} {i : Inst} (ha : g.tbl[h]? = some a) (hi : M[h]? = some i) (hc : i.cls ≠ "") (hl : g.tbl[n]? = some l) (hn : M[n]? = some ⟨"", []⟩) (nl : g.ow l = none) {C dx : Addr} {fs' : List (Str × V)} : Chg M g (g.own l h f) H (upd H a (.ins C dx fs')) h f := by
  have W' : ∀ {b : Addr}, (g.own l h f).W b ↔ g.W b := fun {b} => own_W (List.mem_of_getElem? hl)
  have d := chg_dat (f := f) (C := C) (dx := dx) (fs' := fs') k w ha hi hc
  refine ⟨⟨d.gc.keep, d.gc.dom, ⟨[], by simp [Gh.own]⟩, fun b z => W'.mpr z, fun b z => .inl (W'.mp z), rfl, rfl⟩, ⟨fun b z => d.kd.ob b ?_, fun b z y => d.kd.lo b z (W'.mp y), fun b z => ⟨fun y => (d.kd.lc b z).1 (W'.mp y), (d.kd.lc b z).2⟩⟩, rfl, fun b p z => ?_, d.oth, d.ins, fun j b i' hb hj hcj p z => ?_⟩
  · rcases z with z | z | z
    · exact .inl (W'.mp z)
    · exact .inr (.inl z)
    · exact .inr (.inr z)
  · show (if b = l then some (h, f) else g.ow b) = some p
    rw [if_neg (fun y => by subst y; rw [nl] at z; cases z)]
    exact z
  · have z : (if b = l then some (h, f) else g.ow b) = some p := z
    by_cases y : b = l
    · subst y
      cases w.inj _ _ _ hb hl
      rw [hn] at hj
      cases hj
      exact hcj rfl
    · rw [if_neg y, w.tw j b i' hb hj hcj] at z
      cases z
/-- the list or dict of f of h changes -/
theorem chg_in (k : Kd g H) (w : WOk K cad g H M) {l : Addr} {o' : HO} (ho : g.ow l = some (h, f)) (mo : MutK o') : Chg M g g H (upd H l o') h f where
  gc := ⟨fun b u hb n => by rw [upd_ne (fun z => by subst z; exact n (.inr (by rw [ho]; exact fun y => nomatch y)))]; exact hb, fun b hb => by
    by_cases z : b = l
    · subst z
      rw [upd_same] at hb
      cases hb
    · rw [upd_ne z] at hb
      exact hb, ⟨[], by simp⟩, fun _ z => z, fun _ z => .inl z, rfl, rfl⟩
  kd := k.upd mo
  tbl := rfl
  ow := fun _ _ z => z
  oth := fun b p hb ne => upd_ne fun z => by
    subst z
    rw [ho] at hb
    exact ne (Option.some.inj hb).symm
  ins := fun j b i' hb hj hcj ne => upd_ne fun z => by
    subst z
    rw [w.tw j _ i' hb hj hcj] at ho
    cases ho
  nt := fun j b i' hb hj hcj p z => by
    rw [w.tw j b i' hb hj hcj] at z
    cases z
theorem FsRep.len {fs : List (Str × V)} {gs : List (Str × Fld)} (t : FsRep K cad g H h fs gs) : fs.length = gs.length := by
  induction t with
  | nil => rfl
  | cons _ _ ih => simp [ih]
end
end Rf
/-! # R19: fields and methods -/
namespace Rf
open PySem PySem.Spec PyProof.Rows L2 Evl

def fldD (M : Mo) (f : Str) : Dat → Option Fld
  | .dict [(.none, .int (.ofNat h))] => (M[h]?).bind fun i => i.fs.lookup f
  | _ => none
def qFld (f : Str) (o : QF) : QF := fun M ρ => (o M ρ).bind fun d => match fldD M f d with
  | some (.dat x) => .ok x
  | _ => .bad
def qwFld (f : Str) (o : QF) : QF := fun M ρ => (o M ρ).bind fun d => match fldD M f d with
  | some (.dat x) => .ok x
  | some (.lst _ xs) => .ok (.list xs)
  | _ => .bad
theorem fldD_some {M : Mo} {f : Str} {d : Dat} {fl : Fld} (h : fldD M f d = some fl) : ∃ n i, d = obj n ∧ M[n]? = some i ∧ i.fs.lookup f = some fl := by
  unfold fldD at h
  split at h
  · next n =>
    obtain ⟨i, h1, h2⟩ := Option.bind_eq_some_iff.mp h
    exact ⟨n, i, rfl, h1, h2⟩
  · cases h
theorem lookup_mem {f : Str} {fl : Fld} : ∀ {gs : List (Str × Fld)}, gs.lookup f = some fl → f ∈ gs.map (·.1)
  | [], h => nomatch h
  | (g, y) :: r, h => by
    rw [List.lookup_cons] at h
    cases hb : f == g with
    | true => rw [eq_of_beq hb]; simp
    | false =>
      rw [hb] at h
      exact List.mem_cons_of_mem _ (lookup_mem h)
section
variable {K : PySem.W.Frag} {cad : Cad} {g : Gh} {H : Hp} {M : Mo}
/-- what a field is, where the instance is known -/
theorem fld_go (co : CadOk K cad) (w : WOk K cad g H M) {f : Str} {d : Dat} {fl : Fld} {v : V} (h : fldD M f d = some fl) (r : WRep K g H v d) : ∃ n i a C dx fs u, d = obj n ∧ M[n]? = some i ∧ i.fs.lookup f = some fl ∧ g.tbl[n]? = some a ∧ v = .ref a ∧ cad i.cls = some C ∧ H a = some (.ins C dx fs) ∧ FsRep K cad g H n fs i.fs ∧ Cls K C ∧ NoAttr K C f ∧ fs.lookup f = some u ∧ FldRep K cad g H n f u fl := by
  obtain ⟨n, i, rfl, h1, h2⟩ := fldD_some h
  obtain ⟨a, rfl, ha⟩ := wr_obj r
  have hc : i.cls ≠ "" := fun z => by
    rw [w.dm n i h1 z] at h2
    cases h2
  obtain ⟨C, dx, fs, c1, c2, c3⟩ := w.ins n a i ha h1 hc
  obtain ⟨u, l1, l2⟩ := c3.get h2
  obtain ⟨k1, k2⟩ := co i.cls C f c1 (w.fd n i h1 f (lookup_mem h2))
  exact ⟨n, i, a, C, dx, fs, u, rfl, h1, h2, ha, rfl, c1, c2, c3, k1, k2, l1, l2⟩
end
section
variable {X : Cx} {cad : Cad} {W : WX} {o e : Expr} {es : List Expr} {fo : QF} {f m : Str} {pos apos : Pos}
theorem qe_fld (co : CadOk X.K cad) (ho : QW cad X W o fo) (hb : baseOk o = true) : QE cad X W (.Attribute o f pos) (qFld f fo) :=
  PE.weak (pe_fld ho (base_ok hb)) fun σ H Q ⟨g, ρ, M, I, h⟩ => by
    refine tW.go I h.bnd fun d v H1 h1 e1 r1 => ?_
    split at h1
    · next x hx =>
      obtain ⟨n, i, a, C, dx, fs, u, _, _, _, _, rfl, _, c2, _, k1, k2, l1, l2⟩ := fld_go co (I.ex e1).wok hx r1
      exact ⟨a, C, dx, fs, u, rfl, c2, k1, k2, l1, h1 u H1 e1 l2⟩
    · exact False.elim h1
theorem qw_fld (co : CadOk X.K cad) (ho : QW cad X W o fo) (hb : baseOk o = true) : QW cad X W (.Attribute o f pos) (qwFld f fo) :=
  PE.weak (pe_fld ho (base_ok hb)) fun σ H Q ⟨g, ρ, M, I, h⟩ => by
    refine tW.go I h.bnd fun d v H1 h1 e1 r1 => ?_
    split at h1
    · next x hx =>
      obtain ⟨n, i, a, C, dx, fs, u, _, _, _, _, rfl, _, c2, _, k1, k2, l1, l2⟩ := fld_go co (I.ex e1).wok hx r1
      exact ⟨a, C, dx, fs, u, rfl, c2, k1, k2, l1, h1 u H1 e1 (Rep.weak l2)⟩
    · next xs hx =>
      obtain ⟨n, i, a, C, dx, fs, u, _, _, _, _, rfl, _, c2, _, k1, k2, l1, l, us, rfl, s1, s2, s3, _⟩ := fld_go co (I.ex e1).wok hx r1
      exact ⟨a, C, dx, fs, _, rfl, c2, k1, k2, l1, h1 _ H1 e1 ⟨l, us, rfl, sq_of s1, s3⟩⟩
    · exact False.elim h1
/-! ### methods, by the instance's class -/
def tMethD (X : Cx) (W : WX) (m : Str) (ta : TE) (t : TA) : TE := fun σ H Q => ta σ H fun x H1 => ∃ (a C dx : Addr) (fs : List (Str × V)) (f : Addr) (fd : FuncData) (ps : List Str) (sp : Sp) (k : Nat), x = .ref a ∧ H1 a = some (.ins C dx fs) ∧ fs.lookup m = none ∧ Cls X.K C ∧ Meth X.K C m f ∧ Room k X.A ∧ Binds X.K fd ps [] ∧
  FnOk X.prog X.w X.K X.mg X.base (L2.CX X.prog X.w) k f fd ps sp ∧ t σ H1 fun vs H2 => sp (x :: vs) H2 Q (WE W σ)
theorem call_late {M : Model} {A : Around} {E : Value → Shared → Prop} {s : Shared} {env : PySem.Env} {args : List Expr} {Q : Value → Shared → Prop} (hbase : baseOk o = true) (hs : args.all nst = true) (hz : args.length < 30) (hl : (apos.endLine == pos.line) = true)
    (h : wpAny M A (eval o env) (fun ov s₁ => ∀ pl : Sem Bool, wpAny M A (getMethod ov m pl) (fun fx s₂ => wpAny M A (callWith pos fx.1 fx.2 (backTo pos (starEach args env)) (backToKw pos (keywordEach [] env))) Q E s₂) E s₁) E s) :
    wpAny M A (eval (.Call (.Attribute o m apos) args [] pos) env) Q E s := by
  have hform : methodCallForm (args.length + ([] : List Keyword).length) (backTo pos (starEach args env)) (backToKw pos (keywordEach [] env)) = true := few hs hz
  have hpos : methodCallPos true o env apos pos = pure pos := by unfold methodCallPos; simp [hl]
  rw [arm_eval_Call, base_ok hbase]
  refine wpAny_bind (wpAny_mono h (fun ov s₁ h₁ => ?_) fun _ _ e => e)
  refine wpAny_bind (wpAny_standAt ?_)
  unfold methodCall
  rw [hform]
  refine wpAny_bind (wpAny_holding ?_)
  refine wpAny_mono (h₁ _) (fun fx s₂ h₂ => ?_) fun _ _ e => e
  exact wpAny_bind (wpAny_of_eq hpos h₂)
theorem pe_methD {ta : TE} {t : TA} (tk : Takes X W) (ho : PE X o ta) (ha : PA X (e :: es) t) (hb : baseOk o = true) (hs : (e :: es).all nst = true) (hl : (apos.endLine == pos.line) = true) (hz : (e :: es).length < 30) : PE X (.Call (.Attribute o m apos) (e :: es) [] pos) (tMethD X W m ta t) := by
  have hs' := hs
  rw [List.all_cons, Bool.and_eq_true] at hs'
  refine ⟨fun pins s σ H Q I h => ?_⟩
  refine call_late hb hs hz hl (thn (ho.run pins s σ H _ I h) fun u s1 ⟨x, G, J, rx, a, C, dx, fs, f, fd, ps, sp, k, ex, ea, l, c, hm, hr, hB, F, q⟩ pl => ?_)
  subst ex
  cases rx
  refine getmeth_ok J ea c hm l ?_
  refine PySem.W.callWith_K (first := [.ref a]) (h₀ := X.base) I.ok.mod.kin hm.kp (thn (ha.run pos pins s1 σ G _ J q) fun us s2 ⟨vs, G2, J2, r, q2⟩ => ⟨J2.kIn, ?_⟩) (star1 hs'.1 es) (star_any es hs'.2)
  exact run_fnS (us := .ref a :: us) (vs := .ref a :: vs) F hr hB (passAt tk σ) J2 (.cons rfl r) q2
theorem pe_methD0 {ta : TE} (tk : Takes X W) (ho : PE X o ta) (hb : baseOk o = true) (hl : (apos.endLine == pos.line) = true) : PE X (.Call (.Attribute o m apos) [] [] pos) (tMethD X W m ta tNil) := by
  refine ⟨fun pins s σ H Q I h => ?_⟩
  refine call_late hb rfl (by decide) hl (thn (ho.run pins s σ H _ I h) fun u s1 ⟨x, G, J, rx, a, C, dx, fs, f, fd, ps, sp, k, ex, ea, l, c, hm, hr, hB, F, q⟩ pl => ?_)
  subst ex
  cases rx
  refine getmeth_ok J ea c hm l ?_
  exact PySem.W.callWith_K0 (first := [.ref a]) J.kIn hm.kp (run_fnS (us := [.ref a]) (vs := [.ref a]) F hr hB (passAt tk σ) J (.cons rfl .nil) q)
/-! in the mirror -/
def methD (tb : List (Str × MV)) (M : Mo) : Dat → Option MV
  | .dict [(.none, .int (.ofNat h))] => (M[h]?).bind fun i => tb.lookup i.cls
  | _ => none
def qMeth (tb : List (Str × MV)) (o : QF) (as : QA) : QF := fun M ρ => (o M ρ).bind fun d => match methD tb M d with
  | some (.q _ m) => (as M ρ).bind fun ds => m M (d :: ds)
  | _ => .bad
def gMeth (tb : List (Str × MV)) (o : QF) (as : QA) : GF := fun M ρ => ((o M ρ).at M).bind fun d _ => match methD tb M d with
  | some (.q _ m) => ((as M ρ).at M).bind fun ds _ => (m M (d :: ds)).at M
  | some (.g _ m) => ((as M ρ).at M).bind fun ds _ => m M (d :: ds)
  | none => .bad
/-- the table of a method: all its classes keep their word -/
def TbOk (X : Cx) (cad : Cad) (k : Nat) (m : Str) (n : Nat) (tb : List (Str × MV)) : Prop := ∀ c v, tb.lookup c = some v → MVok X.prog X.w X.K X.mg X.base cad k c m v ∧ match v with
    | .q j _ => j = n
    | .g j _ => j = n
theorem TbOk.cls {k n : Nat} {tb : List (Str × MV)} (T : TbOk X cad k m n tb) : ∀ c v, tb.lookup c = some v → cad c ≠ none := fun c v h z => by
  obtain ⟨⟨C, f, c1, _⟩, _⟩ := T c v h
  rw [z] at c1
  cases c1
theorem meth_go {K : PySem.W.Frag} {g : Gh} {H : Hp} {M : Mo} {tb : List (Str × MV)} {d : Dat} {v : V} {mv : MV} (ht : ∀ c v, tb.lookup c = some v → cad c ≠ none) (w : WOk K cad g H M) (h : methD tb M d = some mv) (r : WRep K g H v d) : ∃ n i a C dx fs, d = obj n ∧ M[n]? = some i ∧ tb.lookup i.cls = some mv ∧ g.tbl[n]? = some a ∧ v = .ref a ∧ cad i.cls = some C ∧ H a = some (.ins C dx fs) ∧ FsRep K cad g H n fs i.fs := by
  unfold methD at h
  split at h
  · next n =>
    obtain ⟨i, h1, h2⟩ := Option.bind_eq_some_iff.mp h
    obtain ⟨a, rfl, ha⟩ := wr_obj r
    obtain ⟨C, dx, fs, c1, c2, c3⟩ := w.ins n a i ha h1 fun z => ht _ _ h2 (by rw [z]; exact w.nc)
    exact ⟨n, i, a, C, dx, fs, rfl, h1, h2, ha, rfl, c1, c2, c3⟩
  · cases h
theorem no_fld {K : PySem.W.Frag} {g : Gh} {H : Hp} {M : Mo} {n : Nat} {i : Inst} {fs : List (Str × V)} (w : WOk K cad g H M) (hi : M[n]? = some i) (R : FsRep K cad g H n fs i.fs) (h : m ∉ cad.fl i.cls) : fs.lookup m = none := by
  refine R.no ?_
  cases hl : i.fs.lookup m with
  | none => rfl
  | some x => exact absurd (w.fd n i hi m (lookup_mem hl)) h
theorem meth_q {tb : List (Str × MV)} {as : QA} {n k : Nat} {t : TA} (hr : Room k X.A) (T : TbOk X cad k m n tb) (hn : ∀ M ρ ds, as M ρ = .ok ds → ds.length + 1 = n) (ht : ∀ σ H Q, tQA X.K cad W as σ H Q → t σ H Q) (σ : L2.St) (H : Hp) (Q : VK) (h : tQ X.K cad W (qMeth tb fo as) σ H Q) : tMethD X W m (tW X.K cad W fo) t σ H Q := by
  obtain ⟨g, ρ, M, I, h⟩ := h
  refine tW.go I h.bnd fun d v H1 h1 e1 r1 => ?_
  have I1 := I.ex e1
  split at h1
  · next j mm hmv =>
    obtain ⟨hd, i, a, C, dx, fs, rfl, hi, hl, ha, rfl, c1, c2, c3⟩ := meth_go T.cls I1.wok hmv r1
    obtain ⟨⟨C', f, cc, cl, me, nf, fd, ps, j', hj, hp, hB, F⟩, en⟩ := T _ _ hl
    have en : j = n := en
    rw [c1] at cc
    cases cc
    refine ⟨a, C, dx, fs, f, fd, ps, _, j', rfl, c2, no_fld I1.wok hi c3 nf, cl, me, hr.mono hj, hB, F, ht σ H1 _ ⟨g, ρ, M, I1, ?_⟩⟩
    have h2 := h1.bnd
    cases has : as M ρ with
    | exc x => rw [has] at h2; exact exE.ex e1 h2
    | bad => rw [has] at h2; exact False.elim h2
    | ok ds =>
      rw [has] at h2
      intro vs H2 e2 r2
      refine ⟨by rw [hp, en, ← hn M ρ ds has, List.length_cons, r2.length], g, M, obj hd :: ds, (I1.ex e2).kd, (I1.ex e2).wok, .cons (.obj ha) r2, ?_⟩
      exact Out.sat.mono h2 (fun d k v H' e' r' => k v H' ((e1.trans e2).trans e') r') fun x k H' c dd e' r' => k H' c dd ((e1.trans e2).trans e') r'
  · exact False.elim h1
theorem qe_meth {tb : List (Str × MV)} {as : QA} {k : Nat} (tk : Takes X W) (hr : Room k X.A) (T : TbOk X cad k m ((e :: es).length + 1) tb) (ho : QW cad X W o fo) (ha : QAe cad X W (e :: es) as) (hn : ∀ M ρ ds, as M ρ = .ok ds → ds.length = (e :: es).length) (hb : baseOk o = true) (hs : (e :: es).all nst = true) (hl : (apos.endLine == pos.line) = true) (hz : (e :: es).length < 30) :
    QE cad X W (.Call (.Attribute o m apos) (e :: es) [] pos) (qMeth tb fo as) :=
  PE.weak (pe_methD tk ho ha hb hs hl hz) fun σ H Q h => meth_q hr T (fun M ρ ds z => by rw [hn M ρ ds z]) (fun _ _ _ z => z) σ H Q h
theorem qe_meth0 {tb : List (Str × MV)} {k : Nat} (tk : Takes X W) (hr : Room k X.A) (T : TbOk X cad k m 1 tb) (ho : QW cad X W o fo) (hb : baseOk o = true) (hl : (apos.endLine == pos.line) = true) :
    QE cad X W (.Call (.Attribute o m apos) [] [] pos) (qMeth tb fo qNil) :=
  PE.weak (pe_methD0 tk ho hb hl) fun σ H Q h => meth_q hr T (fun M ρ ds z => by cases z; rfl) (fun σ H Q ⟨g, ρ, M, I, z⟩ => z [] H (Ex.refl H) .nil) σ H Q h
/-! loud -/
theorem meth_g {tb : List (Str × MV)} {as : QA} {n k : Nat} {t : TA} (hr : Room k X.A) (T : TbOk X cad k m n tb) (hn : ∀ M ρ ds, as M ρ = .ok ds → ds.length + 1 = n) (ht : ∀ σ H Q, tQA X.K cad W as σ H Q → t σ H Q) (σ : L2.St) (H : Hp) (Q : VK) (h : tE X.K cad W false (gMeth tb fo as) σ H Q) : tMethD X W m (tW X.K cad W fo) t σ H Q := by
  obtain ⟨g, ρ, M, I, h⟩ := h
  have quiet : ∀ {x : Exn}, gE X.K cad W false g H σ ρ x M → exE X.K cad W g H σ x := fun {x} z H' c dd e r => z H' g c dd (Gr.ex e) (I.ex e) r
  have h := h.bnd
  refine ⟨g, ρ, M, I, ?_⟩
  cases ho : fo M ρ with
  | exc x => rw [ho] at h; exact quiet h
  | bad => rw [ho] at h; exact False.elim h
  | ok d =>
    rw [ho] at h
    intro v H1 e1 r1
    have I1 := I.ex e1
    have h : (match methD tb M d with
      | some (.q _ m) => ((as M ρ).at M).bind fun ds _ => (m M (d :: ds)).at M
      | some (.g _ m) => ((as M ρ).at M).bind fun ds _ => m M (d :: ds)
      | none => .bad).sat (fun d M' => ∀ v H' g', Gr false g g' H H' → SInv X.K cad σ H' g' ρ M' → Rep X.K g' H' v d → Q v H') (gE X.K cad W false g H σ ρ) := h
    split at h
    · next j mm hmv =>
      obtain ⟨hd, i, a, C, dx, fs, rfl, hi, hl, ha, rfl, c1, c2, c3⟩ := meth_go T.cls I1.wok hmv r1
      obtain ⟨⟨C', f, cc, cl, me, nf, fd, ps, j', hj, hp, hB, F⟩, en⟩ := T _ _ hl
      have en : j = n := en
      rw [c1] at cc
      cases cc
      refine ⟨a, C, dx, fs, f, fd, ps, _, j', rfl, c2, no_fld I1.wok hi c3 nf, cl, me, hr.mono hj, hB, F, ht σ H1 _ ⟨g, ρ, M, I1, ?_⟩⟩
      have h2 := h.bnd
      cases has : as M ρ with
      | exc x => rw [has] at h2; exact exE.ex e1 (quiet h2)
      | bad => rw [has] at h2; exact False.elim h2
      | ok ds =>
        rw [has] at h2
        intro vs H2 e2 r2
        have e12 := e1.trans e2
        refine ⟨by rw [hp, en, ← hn M ρ ds has, List.length_cons, r2.length], g, M, obj hd :: ds, (I1.ex e2).kd, (I1.ex e2).wok, .cons (.obj ha) r2, ?_⟩
        exact Out.sat.mono (Out.sat_at h2) (fun d k v H' e' r' => k v H' g (Gr.ex (e12.trans e')) (I.ex (e12.trans e')) r') fun x k H' c dd e' r' => k H' g c dd (Gr.ex (e12.trans e')) (I.ex (e12.trans e')) r'
    · next j mm hmv =>
      obtain ⟨hd, i, a, C, dx, fs, rfl, hi, hl, ha, rfl, c1, c2, c3⟩ := meth_go T.cls I1.wok hmv r1
      obtain ⟨⟨C', f, cc, cl, me, nf, fd, ps, j', hj, hp, hB, F⟩, en⟩ := T _ _ hl
      have en : j = n := en
      rw [c1] at cc
      cases cc
      refine ⟨a, C, dx, fs, f, fd, ps, _, j', rfl, c2, no_fld I1.wok hi c3 nf, cl, me, hr.mono hj, hB, F, ht σ H1 _ ⟨g, ρ, M, I1, ?_⟩⟩
      have h2 := h.bnd
      cases has : as M ρ with
      | exc x => rw [has] at h2; exact exE.ex e1 (quiet h2)
      | bad => rw [has] at h2; exact False.elim h2
      | ok ds =>
        rw [has] at h2
        intro vs H2 e2 r2
        have e12 := e1.trans e2
        refine ⟨by rw [hp, en, ← hn M ρ ds has, List.length_cons, r2.length], g, M, obj hd :: ds, (I1.ex e2).kd, (I1.ex e2).wok, .cons (.obj ha) r2, ?_⟩
        exact GOut.sat.mono h2 (fun d M' k v H' g' c kd wk r' => k v H' g' ((Gr.ex e12).trans c.gr) ((I.ex e12).call c kd wk) r') fun x M' k H' g' cc dd c kd wk r' => k H' g' cc dd ((Gr.ex e12).trans c.gr) ((I.ex e12).call c kd wk) r'
    · exact False.elim h
theorem ge_meth {tb : List (Str × MV)} {as : QA} {k : Nat} (tk : Takes X W) (hr : Room k X.A) (T : TbOk X cad k m ((e :: es).length + 1) tb) (ho : QW cad X W o fo) (ha : QAe cad X W (e :: es) as) (hn : ∀ M ρ ds, as M ρ = .ok ds → ds.length = (e :: es).length) (hb : baseOk o = true) (hs : (e :: es).all nst = true) (hl : (apos.endLine == pos.line) = true) (hz : (e :: es).length < 30) :
    GE cad X W false (.Call (.Attribute o m apos) (e :: es) [] pos) (gMeth tb fo as) :=
  PE.weak (pe_methD tk ho ha hb hs hl hz) fun σ H Q h => meth_g hr T (fun M ρ ds z => by rw [hn M ρ ds z]) (fun _ _ _ z => z) σ H Q h
theorem ge_meth0 {tb : List (Str × MV)} {k : Nat} (tk : Takes X W) (hr : Room k X.A) (T : TbOk X cad k m 1 tb) (ho : QW cad X W o fo) (hb : baseOk o = true) (hl : (apos.endLine == pos.line) = true) :
    GE cad X W false (.Call (.Attribute o m apos) [] [] pos) (gMeth tb fo qNil) :=
  PE.weak (pe_methD0 tk ho hb hl) fun σ H Q h => meth_g hr T (fun M ρ ds z => by cases z; rfl) (fun σ H Q ⟨g, ρ, M, I, z⟩ => z [] H (Ex.refl H) .nil) σ H Q h
end
end Rf
/-! # S3: raise -/
namespace Rf
open PySem PySem.Spec PyProof.Rows L2 Evl

def sRaise (x : Str) : SF := fun M ρ => .exc ⟨x, []⟩ ρ M
def sRaiseI (x : Str) (fs : List Str) (as : QA) : SF := fun M ρ => ((as M ρ).at M).then ρ fun ds M' => .exc ⟨x, (fs.zip ds).reverse⟩ ρ M'
section
variable {X : Cx} {cad : Cad} {W : WX} {q : Bool} {x : Str} {pos p p1 : Pos} {k : Nat}
theorem se_raise (hc : X.calm = true) (tk : Takes X W) (hg : Gl X x) (hd : (x == ("__debug__" : Str)) = false) (g : GVok X.prog X.w X.K X.mg X.base cad k x .exc) : SE cad X W q (.Raise (some (.Call (.Name x p) [] [] p1)) none pos) (sRaise x) := by
  obtain ⟨C, g1, g2, g3, g4, g5, g6⟩ := g
  exact PS.weak (ps_raise hc tk (Ear.pmk_own0 PySem.F.excBase_ValueError g3 g1 g4 (raises_own g5 g6) hg hd)) fun D σ H ⟨g, ρ, M, I, z⟩ => z σ H g (.ref C) none Gr.refl I ⟨C, g2, rfl, .inl ⟨rfl, rfl⟩⟩
theorem PsRep.gr {K : PySem.W.Frag} {g g' : Gh} {H H' : Hp} {q : Bool} (r : Gr q g g' H H') (k : Kd g H) {fs : List (Str × V)} {gs : List (Str × Dat)} (h : PsRep K g H fs gs) : PsRep K g' H' fs gs := by
  induction h with
  | nil => exact .nil
  | cons z _ ih => exact .cons (z.gr r k) ih
theorem PsRep.snoc {K : PySem.W.Frag} {g : Gh} {H : Hp} {f : Str} {v : V} {d : Dat} (z : Rep K g H v d) {fs : List (Str × V)} {gs : List (Str × Dat)} (h : PsRep K g H fs gs) : PsRep K g H (fs ++ [(f, v)]) (gs ++ [(f, d)]) := by
  induction h with
  | nil => exact .cons z .nil
  | cons y _ ih => exact .cons y ih
theorem ps_zip {K : PySem.W.Frag} {g : Gh} {H : Hp} : ∀ {fs : List Str} {vs : List V} {ds : List Dat}, Reps K g H vs ds → PsRep K g H (fs.zip vs).reverse (fs.zip ds).reverse
  | [], _, _, _ => .nil
  | _ :: _, _, _, .nil => .nil
  | f :: fs, _, _, .cons z t => by
    rw [List.zip_cons_cons, List.zip_cons_cons, List.reverse_cons, List.reverse_cons]
    exact (ps_zip t).snoc z
theorem se_raiseI {e : Expr} {es : List Expr} {fs : List Str} {as : QA} (hc : X.calm = true) (tk : Takes X W) (hr : Room k X.A) (hg : Gl X x) (hd : (x == ("__debug__" : Str)) = false) (g : GVok X.prog X.w X.K X.mg X.base cad k x (.exi fs)) (ha : QAe cad X W (e :: es) as)
    (hs : (e :: es).all nst = true) (hn : ∀ M ρ ds, as M ρ = .ok ds → ds.length = fs.length) (hz : fs.length ≤ 1000) : SE cad X W q (.Raise (some (.Call (.Name x p) (e :: es) [] p1)) none pos) (sRaiseI x fs as) := by
  obtain ⟨C, fI, fd, ps, g1, g2, g3, g4, g5, hk, hp, hB, F⟩ := g
  have hs' := hs
  rw [List.all_cons, Bool.and_eq_true] at hs'
  refine PS.weak (ps_raise hc tk (pmk_oex g3 g4 g5 F (hr.mono hk) hB .nil pass0 hg g1 ha hd (star1 hs'.1 es) (star_any es hs'.2))) fun D σ H ⟨g, ρ, M, I, z⟩ => ?_
  refine ⟨g, ρ, M, I, ?_⟩
  unfold sRaiseI at z
  cases has : as M ρ with
  | exc y => rw [has] at z; exact fun H' c dd e r => z σ H' g c dd (Gr.ex e) (I.ex e) r.fr
  | bad => rw [has] at z; exact False.elim z
  | ok ds =>
    rw [has] at z
    intro vs H1 e1 r1
    have hl : vs.length = fs.length := by rw [r1.length, hn M ρ ds has]
    refine ⟨by omega, fun a na => ⟨a, vs ++ [], rfl, by simpa using hl, upd_same, fun dx H' nd kp dm ha' hd' => ?_⟩⟩
    have ne : dx ≠ a := fun z => by
      subst z
      rw [upd_same] at nd
      cases nd
    rw [upd_ne ne] at nd
    refine ⟨rfl, dx, _, ha', hd', nd, ?_⟩
    have kp' : ∀ b o, H1 b = some o → (upd (del H' a) dx (.xd (fs.zip (vs ++ [])).reverse)) b = some o := fun b o hb => by
      have nb : b ≠ a := fun z => by subst z; rw [na] at hb; cases hb
      have nd' : b ≠ dx := fun z => by subst z; rw [nd] at hb; cases hb
      rw [upd_ne nd', del_ne nb]
      exact kp b o nb (by rw [upd_ne nb]; exact hb)
    have ex : Ex H1 (upd (del H' a) dx (.xd (fs.zip (vs ++ [])).reverse)) := fun b o hb => kp' b o hb
    have I1 := I.ex e1
    refine z σ _ g (.ref C) (some dx) (Gr.ex (e1.trans ex)) (I1.ex ex) ⟨C, g2, rfl, .inr ⟨dx, _, rfl, upd_same, ?_⟩⟩
    rw [List.append_nil]
    have := (ps_zip (fs := fs) r1).gr (Gr.ex (q := true) ex) I1.kd
    rw [List.append_nil] at this
    exact PsRep.less (g := g) (g' := g.fr) rfl (fr_less g) this
end
/-! ### an own __init__ that keeps its arguments -/
section
variable {P : Program} {w : World} {K : PySem.W.Frag} {mg : Str → Option Value} {base : Heap} {C f : Addr} {fd : FuncData} {qual : Str} {st : Stmt}
theorem vis_par {N ps : List Str} {sc : Scope} (S : FnScope N ps sc) {y : Str} (h : y ∈ ps) : Vis sc y := (S.par y h).elim (fun z => .inl z) fun z => .inr (.inl z)
theorem ok_xinit3 {s a1 a2 a3 f1 f2 f3 : Str} {p1 p2 p3 p4 p5 p6 p7 p8 p9 p10 p11 p12 : Pos} (F : L2.Fun K "__init__" qual st f fd) (S : FnScope [s, a1, a2, a3] [s, a1, a2, a3] (defScope st)) (T : OexC K C)
    (hb : defBody st = [.Assign [.Attribute (.Name s p1) f1 p2] (.Name a1 p3) p4, .Assign [.Attribute (.Name s p5) f2 p6] (.Name a2 p7) p8, .Assign [.Attribute (.Name s p9) f3 p10] (.Name a3 p11) p12])
    (dz : ∀ y ∈ [s, a1, a2, a3], (y == ("__debug__" : Str)) = false ∧ (y == ("__classdict__" : Str)) = false) (n1 : PySem.W.findIn K (.ref C) f1 = some none) (n2 : PySem.W.findIn K (.ref C) f2 = some none) (n3 : PySem.W.findIn K (.ref C) f3 = some none) :
    FnOk P w K mg base CX0 1 f fd [s, a1, a2, a3] (spXI C [f1, f2, f3]) := by
  refine F.ok S (fun vs H Q E h => ?_) (fun cdv A outer s0 H vs Q E hr h => ?_)
  · obtain ⟨a, xs, rfl, hl, _⟩ := h
    simp [hl]
  · obtain ⟨a, xs, rfl, hl, ha, q⟩ := h
    match xs, hl with
    | [x, y, z], _ =>
    rw [hb]
    have v0 := vis_par S (y := s) (by simp)
    have v1 := vis_par S (y := a1) (by simp)
    have v2 := vis_par S (y := a2) (by simp)
    have v3 := vis_par S (y := a3) (by simp)
    obtain ⟨c0, k0⟩ := dz s (by simp)
    obtain ⟨c1, k1⟩ := dz a1 (by simp)
    obtain ⟨c2, k2⟩ := dz a2 (by simp)
    obtain ⟨c3, k3⟩ := dz a3 (by simp)
    refine ⟨_, pss_cons (ps_ost (pe_var (i := 0) rfl v0 c0 k0) (pe_var (i := 1) rfl v1 c1 k1)) (pss_cons (ps_ost (pe_var (i := 0) rfl v0 c0 k0) (pe_var (i := 2) rfl v2 c2 k2)) (pss_one (ps_ost (pe_var (i := 0) rfl v0 c0 k0) (pe_var (i := 3) rfl v3 c3 k3)))), ?_⟩
    refine ⟨_, rfl, _, rfl, a, C, rfl, T, n1, .inl ⟨ha, fun dx nd ne => ?_⟩⟩
    refine ⟨_, rfl, _, rfl, a, C, rfl, T, n2, .inr ⟨dx, [(f1, x)], upd_same, (by rw [upd_ne ne]; exact upd_same), (show 1 ≤ 900 by decide), ?_⟩⟩
    refine ⟨_, rfl, _, rfl, a, C, rfl, T, n3, .inr ⟨dx, _, (by rw [upd_ne ne.symm]; exact upd_same), upd_same, (show 2 ≤ 900 by decide), ?_⟩⟩
    refine q dx _ nd (fun b o hb hB => ?_) (fun b hB => ?_) (by rw [upd_ne ne.symm, upd_ne ne.symm]; exact upd_same) upd_same
    · have hbd : b ≠ dx := ne_of_none hB nd
      rw [upd_ne hbd, upd_ne hbd, upd_ne hb, upd_ne hbd]
      exact hB
    · by_cases e : b = dx
      · rw [e]; exact nd
      · by_cases e2 : b = a
        · subst e2
          rw [upd_ne e, upd_ne e, upd_same] at hB
          cases hB
        · rw [upd_ne e, upd_ne e, upd_ne e2, upd_ne e] at hB
          exact hB
theorem ok_xinit1 {s a1 f1 : Str} {p1 p2 p3 p4 : Pos} (F : L2.Fun K "__init__" qual st f fd) (S : FnScope [s, a1] [s, a1] (defScope st)) (T : OexC K C)
    (hb : defBody st = [.Assign [.Attribute (.Name s p1) f1 p2] (.Name a1 p3) p4])
    (dz : ∀ y ∈ [s, a1], (y == ("__debug__" : Str)) = false ∧ (y == ("__classdict__" : Str)) = false) (n1 : PySem.W.findIn K (.ref C) f1 = some none) :
    FnOk P w K mg base CX0 1 f fd [s, a1] (spXI C [f1]) := by
  refine F.ok S (fun vs H Q E h => ?_) (fun cdv A outer s0 H vs Q E hr h => ?_)
  · obtain ⟨a, xs, rfl, hl, _⟩ := h
    simp [hl]
  · obtain ⟨a, xs, rfl, hl, ha, q⟩ := h
    match xs, hl with
    | [x], _ =>
    rw [hb]
    obtain ⟨c0, k0⟩ := dz s (by simp)
    obtain ⟨c1, k1⟩ := dz a1 (by simp)
    refine ⟨_, pss_one (ps_ost (pe_var (i := 0) rfl (vis_par S (y := s) (by simp)) c0 k0) (pe_var (i := 1) rfl (vis_par S (y := a1) (by simp)) c1 k1)), ?_⟩
    refine ⟨_, rfl, _, rfl, a, C, rfl, T, n1, .inl ⟨ha, fun dx nd ne => ?_⟩⟩
    refine q dx _ nd (fun b o hb hB => ?_) (fun b hB => ?_) upd_same (by rw [upd_ne ne]; exact upd_same)
    · have hbd : b ≠ dx := ne_of_none hB nd
      rw [upd_ne hb, upd_ne hbd]
      exact hB
    · by_cases e : b = a
      · subst e
        rw [upd_same] at hB
        cases hB
      · rw [upd_ne e] at hB
        by_cases e2 : b = dx
        · rw [e2]; exact nd
        · rw [upd_ne e2] at hB
          exact hB
end
end Rf
/-! # S4: try with several clauses, with and without names -/
namespace Rf
open PySem PySem.Spec PyProof.Rows L2 Evl

/-- a clause: its class, the slot of its name, what its suite is read as -/
structure Cl where
  c : Value
  nm : Option Nat
  ts : Addr → Value → Option Addr → TS
def offE (D : Ends) (i : Nat) : Ends := { nx := fun τ G => D.nx (τ.set i none) G, rt := D.rt, bk := fun τ G => D.bk (τ.set i none) G, ct := fun τ G => D.ct (τ.set i none) G }
def wMix (K : PySem.W.Frag) (Wo : WX) (D : Ends) : List Cl → WX
  | [] => Wo
  | l :: r => fun cls d τ G => ∃ b, PySem.W.exmOne K cls l.c = some b ∧ (b = true → ∀ a, G a = none → (match l.nm with
      | none => l.ts a cls d D τ G
      | some i => l.ts a cls d (offE D i) (τ.set i (some (.ref a))) G)) ∧ (b = false → wMix K Wo D r cls d τ G)
inductive ClsOk (X : Cx) : List ExceptHandler → List Cl → Prop
  | nil : ClsOk X [] []
  | one {x : Str} {l : Cl} {s0 : Stmt} {su : List Stmt} {np cp : Pos} {hds : List ExceptHandler} {ls : List Cl} (hc : Names X x l.c) (hn : l.nm = none)
      (hsu : ∀ (a : Addr) (oe : Obj) (cls : Value) (d : Option Addr) (pn : List (Addr × Obj)), Zc cls d oe → (∃ vs, oe.data = .fields vs) → PSs (X.suite a ((a, oe) :: pn)) (s0 :: su) (l.ts a cls d)) (r : ClsOk X hds ls) :
      ClsOk X (.ExceptHandler (some (.Name x np)) none (s0 :: su) cp :: hds) (l :: ls)
  | as {x n : Str} {i : Nat} {l : Cl} {s0 : Stmt} {su : List Stmt} {np cp : Pos} {hds : List ExceptHandler} {ls : List Cl} (hc : Names X x l.c) (hn : l.nm = some i) (hi : X.N[i]? = some n) (hl : X.env.kindOf n = some .local)
      (hsu : ∀ (a : Addr) (oe : Obj) (cls : Value) (d : Option Addr) (pn : List (Addr × Obj)), Zc cls d oe → (∃ vs, oe.data = .fields vs) → PSs (X.suite a ((a, oe) :: pn)) (s0 :: su) (l.ts a cls d)) (r : ClsOk X hds ls) :
      ClsOk X (.ExceptHandler (some (.Name x np)) (some n) (s0 :: su) cp :: hds) (l :: ls)
section
variable {X : Cx} {body : List Stmt} {h0 : ExceptHandler} {hds : List ExceptHandler} {ls : List Cl} {pos : Pos} {tb : WX → TS} {Wo : WX}
theorem ps_tryX (hs : X.stack = X.env :: X.outer) (hf : X.env.frame = some X.env.locals) (hN : X.N.Nodup) (tk : Takes X Wo)
    (hb : ∀ (W : WX) (pn : List (Addr × Obj)) (xe : Value → Shared → Prop), Takes (X.tr pn xe) W → PassesOwn (model X.prog X.w) X.A X.env xe → PSs (X.tr pn xe) body (tb W))
    (hh : ClsOk X (h0 :: hds) ls) : PS X (.Try body (h0 :: hds) [] [] pos) (fun D σ H => tb (wMix X.K Wo D ls) D σ H) := by
  constructor
  intro pins s σ H D I h
  have ok := I.ok
  have frm : X.A.frames = some (X.env :: X.outer) := by rw [ok.frames, hs]
  have run := (hb (wMix X.K Wo D ls) (X.pn ++ pins) (fun e t₁ => wpAny (model X.prog X.w) X.A (noteFrame e X.env) (fun _ t₂ => wpAny (model X.prog X.w) X.A (setFlight e none) (fun _ t₃ => wpAny (model X.prog X.w) X.A (handleBy e X.env (h0 :: hds)) (SP X pins D) X.xe t₃) X.xe t₂) X.xe t₁) (fun u t xx => by
    obtain ⟨a, B, sI, pins2, τ, G, cls, d, rfl, J2, nb, up, sky, na, os, ag, w⟩ := xx
    have J : Inv X pins τ G sI := J2.ofTry ok
    have sky2 : Sky B (X.env :: X.outer) a (Zc cls d) X.env.locals t.heap := by
      rw [← hs]
      exact sky
    show wpAny (model X.prog X.w) X.A (noteFrame (.ref a) X.env) _ _ _
    refine Sky.land Zc.steady frm hf sky2 ?_
    intro h3 fl3 up3
    have J3 : Inv X pins τ G { t with heap := h3 } := J.landed nb fl3.1 (up.trans up3) os ag
    obtain ⟨oe3, vs3, he3, hz3, hd3⟩ := fl3.there
    have notF : a ∉ frs (X.env :: X.outer) := fun hm => by
      obtain ⟨_, o, eo, hnf⟩ := Heap.FunFrames.mem fl3.2.2.1 hm
      rw [he3] at eo
      cases eo
      exact hnf _ hd3
    have nL : a ≠ X.env.locals := fun z => notF (List.mem_filterMap.mpr ⟨X.env, List.mem_cons_self, (by rw [hf, z])⟩)
    have nF : a ∉ X.fs := fun hm => by
      obtain ⟨e, he, q⟩ := List.mem_filterMap.mp hm
      exact notF (List.mem_filterMap.mpr ⟨e, List.mem_cons_of_mem _ he, q⟩)
    have S3 := J3.suite he3 hd3 na nL nF
    have look : PySem.W.Looks (model X.prog X.w) h3 (typeOf (.ref a)) cls := fun A Q E s k q => wpAny_typeOf_ref (k _ _ he3) (by rw [hz3.1]; exact q)
    have named : ∀ {x : Str} {c : Value} {np : Pos} {Q : Value → Shared → Prop} {E : Value → Shared → Prop}, Names X x c → Q c { t with heap := h3 } → wpAny (model X.prog X.w) (X.A.mark (some (.ref a))) (eval (.Name x np) X.env) Q E { t with heap := h3 } := by
      intro x c np Q E hc q
      obtain ⟨hg, hdb, hm⟩ := hc
      rcases hm with hm | ⟨hm, hv, hnn⟩
      · exact ld_glob (X := X.suite a ((a, oe3) :: (X.pn ++ pins))) S3 hg hm q hdb
      · exact ld_blt (X := X.suite a ((a, oe3) :: (X.pn ++ pins))) S3 hg hm hv q hnn hdb
    have all : ∀ {hds2 : List ExceptHandler} {ls2 : List Cl}, ClsOk X hds2 ls2 → wMix X.K Wo D ls2 cls d τ G → wpAny (model X.prog X.w) X.A (handleBy (.ref a) X.env hds2) (SP X pins D) X.xe { t with heap := h3 } := by
      intro hds2 ls2 hk
      induction hk with
      | nil =>
        intro w
        refine wpAny_handleBy_nil ?_
        obtain ⟨k1, k2, k3, oe, vs, T, oT, ts2, he, hz, hd, h1, hr⟩ := id fl3
        unfold PySem.passOn
        refine wpAny_bind (wpAny_field he hd h1 ?_)
        have nT : ¬ ((Value.ref T == Value.none) = true) := by simp
        rw [if_neg nT]
        have fin : wpAny (model X.prog X.w) X.A (setFlight (.ref a) X.env.frame) (fun _ s4 => wpAny (model X.prog X.w) X.A (throw (.ref a) : Sem Flow) (SP X pins D) X.xe s4) X.xe { t with heap := h3 } := by
          rw [hf]
          refine HandSPX.setFlight_upZ fl3 ?_
          intro h4 hh4 up4
          refine wpAny_throw (tk _ _ ?_)
          exact ⟨a, B, sI, pins, τ, G, cls, d, rfl, J, nb, (up.trans up3).trans up4, .inr (.inr (by rw [hs]; exact hh4)), na, os, ag, w⟩
        first
          | exact wpAny_bind (wpAny_pure (wpAny_bind fin))
          | exact wpAny_bind fin
      | @one x l s0 su np cp hds3 ls3 hc hn hsu r ih =>
        intro w
        obtain ⟨b, hb1, yes, no⟩ := w
        rw [hn] at yes
        have LM := PySem.W.exm_one (M := model X.prog X.w) J3.kIn look hb1
        refine wpAny_handleBy_cons (codeAny_handlers_test ?_) (by intro q; cases q)
        refine named hc (LM.here ?_)
        cases b with
        | false => exact ih (no rfl)
        | true =>
          refine codeAny_handlers_suite ?_
          refine HandSPX.lands_againZ fl3 ?_
          intro h4 fl4 up4
          have J4 : Inv X pins τ G { t with heap := h4 } := J.landed nb fl4.1 ((up.trans up3).trans up4) os ag
          obtain ⟨oe4, vs4, he4, hz4, hd4⟩ := fl4.there
          have S4 := J4.suite he4 hd4 na nL nF
          refine wpAny_mono ((hsu a oe4 cls d (X.pn ++ pins) hz4 ⟨_, hd4⟩).run [] _ _ G _ S4 (yes rfl a na)) ?_ (fun _ _ z => False.elim z)
          intro f s6 sp6
          cases f with
          | ret u =>
            obtain ⟨v6, τ6, G6, S6, r6, q6⟩ := sp6
            exact ⟨_, _, _, S6.unsuite ok, r6, q6⟩
          | next =>
            obtain ⟨τ6, G6, S6, q6⟩ := sp6
            exact ⟨_, _, S6.unsuite ok, q6⟩
          | brk =>
            obtain ⟨τ6, G6, S6, q6⟩ := sp6
            exact ⟨_, _, S6.unsuite ok, q6⟩
          | cont =>
            obtain ⟨τ6, G6, S6, q6⟩ := sp6
            exact ⟨_, _, S6.unsuite ok, q6⟩
      | @as x n i l s0 su np cp hds3 ls3 hc hn hi hl hsu r ih =>
        intro w
        obtain ⟨b, hb1, yes, no⟩ := w
        rw [hn] at yes
        have LM := PySem.W.exm_one (M := model X.prog X.w) J3.kIn look hb1
        refine wpAny_handleBy_cons (codeAny_handlers_test ?_) (by intro q; cases q)
        refine named hc (LM.here ?_)
        cases b with
        | false => exact ih (no rfl)
        | true =>
          refine codeAny_handlers_suite_as ?_
          refine HandSPX.lands_againZ fl3 ?_
          intro h4 fl4 up4
          have J4 : Inv X pins τ G { t with heap := h4 } := J.landed nb fl4.1 ((up.trans up3).trans up4) os ag
          obtain ⟨oe4, vs4, he4, hz4, hd4⟩ := fl4.there
          have S4 := J4.suite he4 hd4 na nL nF
          refine store_ok (X := X.suite a ((a, oe4) :: (X.pn ++ pins))) (v := .ref a) S4 hN hi (.inl hl) rfl ?_ (.inr hl)
          intro s5 S5
          refine wpAny_mono ((hsu a oe4 cls d (X.pn ++ pins) hz4 ⟨_, hd4⟩).run [] s5 _ G _ S5 (yes rfl a na)) ?_ (fun _ _ z => False.elim z)
          intro f s6 sp6
          have bye : ∀ {τ6 : L2.St} {G6 : Hp} {Q : Shared → Prop}, Inv (X.suite a ((a, oe4) :: (X.pn ++ pins))) [] τ6 G6 s6 → (∀ s7, Inv X pins (τ6.set i none) G6 s7 → Q s7) →
              wpAny (model X.prog X.w) X.A (do bindName X.env n .none; unbindBehindTheSuite X.env n cp) (fun _ s7 => Q s7) X.xe s6 := fun S6 hq => gone_ok (S6.unsuite ok) hN hi hl hq
          cases f with
          | ret u =>
            obtain ⟨v6, τ6, G6, S6, r6, q6⟩ := sp6
            exact bye S6 fun s7 J7 => ⟨_, _, _, J7, r6, q6⟩
          | next =>
            obtain ⟨τ6, G6, S6, q6⟩ := sp6
            exact bye S6 fun s7 J7 => ⟨_, _, J7, q6⟩
          | brk =>
            obtain ⟨τ6, G6, S6, q6⟩ := sp6
            exact bye S6 fun s7 J7 => ⟨_, _, J7, q6⟩
          | cont =>
            obtain ⟨τ6, G6, S6, q6⟩ := sp6
            exact bye S6 fun s7 J7 => ⟨_, _, J7, q6⟩
    exact all hh w) PassesOwn.looking).run [] s σ H D (I.toTry _) h
  refine wpAny_Try_except (wpAny_mono run ?_ (fun _ _ z => z))
  intro f s1 sp1
  cases f with
  | ret u =>
    obtain ⟨v, τ, G, J2, r, q⟩ := sp1
    exact ⟨v, τ, G, J2.ofTry ok, r, q⟩
  | next =>
    obtain ⟨τ, G, J2, q⟩ := sp1
    exact wpAny_execs_nil ⟨τ, G, J2.ofTry ok, q⟩
  | brk =>
    obtain ⟨τ, G, J2, q⟩ := sp1
    exact ⟨τ, G, J2.ofTry ok, q⟩
  | cont =>
    obtain ⟨τ, G, J2, q⟩ := sp1
    exact ⟨τ, G, J2.ofTry ok, q⟩
end
end Rf
/-! # S5: .. what the clauses' suites do -/
namespace Rf
open PySem PySem.Spec PyProof.Rows L2 Evl

inductive SuE where
  | con (d : Dat) | fld (f : Str) | flds (fs : List Str)
def xfld (y : Str) (x : Exn) (f : Str) : Option Dat := match x.cls == y with
  | true => (x.fs.lookup f).bind fun d => match lf d with
    | true => some d
    | false => none
  | false => none
def xflds (y : Str) (x : Exn) : List Str → Option (List Dat)
  | [] => some []
  | f :: fs => (xfld y x f).bind fun d => (xflds y x fs).bind fun ds => some (d :: ds)
def suEv (y : Str) (x : Exn) : SuE → Option Dat
  | .con d => some d
  | .fld f => xfld y x f
  | .flds fs => (xflds y x fs).bind fun ds => some (.tuple ds)
def suRun (y : Str) (x : Exn) : List (Nat × SuE) → Env → Option Env
  | [], ρ => some ρ
  | (j, e) :: r, ρ => (suEv y x e).bind fun d => suRun y x r (ρ.set j (some (.dat d)))
/-- a clause: its class, what it takes, the slot of its name, its stores -/
structure Hd where
  y : Str
  tk : Str → Option Bool
  nm : Option Nat
  st : List (Nat × SuE)
def offN (ρ : Env) : Option Nat → Env
  | none => ρ
  | some i => ρ.set i none
def nmOk (ρ : Env) : Option Nat → Bool
  | none => true
  | some i => decide (i < ρ.length)
def hdl : List Hd → Exn → Env → Mo → SOut
  | [], x, ρ, M => .exc x ρ M
  | h :: r, x, ρ, M => match h.tk x.cls with
    | some true => match nmOk ρ h.nm with
      | true => match suRun h.y x h.st (offN ρ h.nm) with
        | some ρ2 => .next (offN ρ2 h.nm) M
        | none => .bad
      | false => .bad
    | some false => hdl r x ρ M
    | none => .bad
def sTry (f : SF) (hs : List Hd) : SF := fun M ρ => match f M ρ with
  | .exc x ρ' M' => hdl hs x ρ' M'
  | o => o
/-- what is so where a suite begins -/
structure XIn (K : PySem.W.Frag) (cad : Cad) (σ : L2.St) (H : Hp) (g : Gh) (ρ : Env) (M : Mo) (x : Exn) (a : Addr) (cls : Value) (d : Option Addr) (i : Option Nat) : Prop where
  inv : SInv K cad σ H g ρ M
  xr : XRep K cad g.fr H x cls d
  sl : ∀ j, i = some j → σ[j]? = some (some (.ref a))
section
variable (K : PySem.W.Frag) (cad : Cad) (a : Addr) (cls : Value) (d : Option Addr) (i : Option Nat)
def tU (f : Exn → Option Dat) : TE := fun σ H Q => ∃ g ρ M x z, XIn K cad σ H g ρ M x a cls d i ∧ f x = some z ∧ ∀ v H', Ex H H' → Rep K g H' v z → Q v H'
def tUA (f : Exn → Option (List Dat)) : TA := fun σ H Q => ∃ g ρ M x z, XIn K cad σ H g ρ M x a cls d i ∧ f x = some z ∧ ∀ v H', Ex H H' → Reps K g H' v z → Q v H'
def tSu (y : Str) (st : List (Nat × SuE)) : TS := fun D σ H => ∃ g ρ M x ρ2, XIn K cad σ H g ρ M x a cls d i ∧ suRun y x st ρ = some ρ2 ∧ (∀ p ∈ st, i ≠ some p.1) ∧ ∀ σ' H', Ex H H' → SInv K cad σ' H' g ρ2 M → D.nx σ' H'
end
section
variable {K : PySem.W.Frag} {cad : Cad} {a : Addr} {cls : Value} {d : Option Addr} {i : Option Nat} {σ : L2.St} {H H' : Hp} {g : Gh} {ρ : Env} {M : Mo} {x : Exn}
theorem PsRep.ex {fs : List (Str × V)} {gs : List (Str × Dat)} (e : Ex H H') (k : Kd g H) (h : PsRep K g H fs gs) : PsRep K g H' fs gs := h.gr (Gr.ex (q := true) e) k
theorem XRep.ex {c : Value} {dd : Option Addr} (e : Ex H H') (k : Kd g H) (h : XRep K cad g H x c dd) : XRep K cad g H' x c dd := by
  obtain ⟨C, h1, h2, h3⟩ := h
  exact ⟨C, h1, h2, h3.imp id fun ⟨b, fs, e1, e2, e3⟩ => ⟨b, fs, e1, e _ _ e2, e3.ex e k⟩⟩
theorem XIn.ex (e : Ex H H') (h : XIn K cad σ H g ρ M x a cls d i) : XIn K cad σ H' g ρ M x a cls d i := ⟨h.inv.ex e, h.xr.ex e h.inv.kd.fr, h.sl⟩
theorem PsRep.get {f : Str} {z : Dat} {fs : List (Str × V)} {gs : List (Str × Dat)} (h : PsRep K g H fs gs) (e : gs.lookup f = some z) : ∃ v, fs.lookup f = some v ∧ Rep K g H v z := by
  induction h with
  | nil => cases e
  | @cons f' v d' _ _ r _ ih =>
    rw [List.lookup_cons] at e
    rw [List.lookup_cons]
    cases hb : f == f' with
    | true =>
      rw [hb] at e
      cases e
      exact ⟨v, rfl, r⟩
    | false =>
      rw [hb] at e
      exact ih e
end
section
variable {X : Cx} {cad : Cad} {a C : Addr} {oe : Obj} {cls : Value} {d : Option Addr} {pn : List (Addr × Obj)} {y n : Str} {pos p : Pos} {j : Nat}
theorem pu_con {e : Expr} {z : Dat} {i : Option Nat} {t : TE} (h : PE (X.suite a ((a, oe) :: pn)) e t) (ht : ∀ σ H Q, tU X.K cad a cls d i (fun _ => some z) σ H Q → t σ H Q) : PE (X.suite a ((a, oe) :: pn)) e (tU X.K cad a cls d i fun _ => some z) := PE.weak h ht
theorem pu_fld {f : Str} (hC : cad y = some C) (T : XfC X.K C) (hno : PySem.W.findIn X.K (.ref C) f = some none) (hz : Zc cls d oe) (hf : ∃ vs, oe.data = .fields vs) (hN : X.N[j]? = some n) (hv : Vis X.env.scope n) (hd : (n == ("__debug__" : Str)) = false) (hcd : (n == ("__classdict__" : Str)) = false) :
    PE (X.suite a ((a, oe) :: pn)) (.Attribute (.Name n p) f pos) (tU X.K cad a cls d (some j) fun x => xfld y x f) := by
  refine PE.weak (pe_xf T hno hz hf (pe_var (i := j) (X := X.suite a ((a, oe) :: pn)) hN hv hd hcd)) fun σ H Q ⟨g, ρ, M, x, z, I, e, k⟩ => ?_
  have e : xfld y x f = some z := e
  unfold xfld at e
  split at e
  · next ey =>
    obtain ⟨z', l, e⟩ := Option.bind_eq_some_iff.mp e
    split at e
    · next hl =>
      cases e
      obtain ⟨C', c1, c2, c3⟩ := I.xr
      rw [eq_of_beq ey, hC] at c1
      cases c1
      rcases c3 with ⟨c3, _⟩ | ⟨b, fs, c3, c4, c5⟩
      · rw [c3] at l
        cases l
      · obtain ⟨v, l1, l2⟩ := c5.get l
        exact ⟨.ref a, I.sl j rfl, rfl, c2, b, fs, v, c3, c4, l1, k v H (Ex.refl H) (Rep.free (g := g.fr) (g' := g) rfl hl l2)⟩
    · cases e
  · cases e
theorem pu_nil {i : Option Nat} : PA (X.suite a ((a, oe) :: pn)) [] (tUA X.K cad a cls d i fun _ => some []) := PA.weak pa_nil fun σ H Q ⟨g, ρ, M, x, z, I, e, k⟩ => by
  cases e
  exact k [] H (Ex.refl H) .nil
theorem pu_cons {e : Expr} {es : List Expr} {i : Option Nat} {f : Exn → Option Dat} {fr : Exn → Option (List Dat)} (h : PE (X.suite a ((a, oe) :: pn)) e (tU X.K cad a cls d i f)) (hr : PA (X.suite a ((a, oe) :: pn)) es (tUA X.K cad a cls d i fr)) (hs : nst e = true) :
    PA (X.suite a ((a, oe) :: pn)) (e :: es) (tUA X.K cad a cls d i fun x => (f x).bind fun z => (fr x).bind fun zs => some (z :: zs)) := by
  refine PA.weak (pa_cons h hr (star1 hs es)) fun σ H Q ⟨g, ρ, M, x, z, I, e, k⟩ => ?_
  obtain ⟨z1, e1, e⟩ := Option.bind_eq_some_iff.mp e
  obtain ⟨z2, e2, e⟩ := Option.bind_eq_some_iff.mp e
  cases e
  exact ⟨g, ρ, M, x, z1, I, e1, fun v H1 x1 r1 => ⟨g, ρ, M, x, z2, I.ex x1, e2, fun vs H2 x2 r2 => k (v :: vs) H2 (x1.trans x2) (.cons (r1.ex x2 (I.ex x1).inv.kd) r2)⟩⟩
theorem pu_tup {es : List Expr} {kk : Nat} {i : Option Nat} {fr : Exn → Option (List Dat)} (hr : PA (X.suite a ((a, oe) :: pn)) es (tUA X.K cad a cls d i fr)) (hn : ∀ x zs, fr x = some zs → zs.length ≤ 100000) : PE (X.suite a ((a, oe) :: pn)) (.Tuple es kk pos) (tU X.K cad a cls d i fun x => (fr x).bind fun zs => some (.tuple zs)) := by
  refine PE.weak (pe_tup hr) fun σ H Q ⟨g, ρ, M, x, z, I, e, k⟩ => ?_
  obtain ⟨zs, e1, e⟩ := Option.bind_eq_some_iff.mp e
  cases e
  refine ⟨g, ρ, M, x, zs, I, e1, fun vs H1 x1 r1 => ⟨sz_of (by rw [r1.length]; exact hn x zs e1), fun p np => ?_⟩⟩
  exact k (.ref p) _ (x1.trans (Ex.new np)) (.tup (st_of upd_same) (r1.ex (Ex.new np) (I.ex x1).inv.kd))
theorem xflds_len {x : Exn} : ∀ {fs : List Str} {zs : List Dat}, xflds y x fs = some zs → zs.length = fs.length
  | [], zs, h => by cases h; rfl
  | f :: fs, zs, h => by
    rw [xflds] at h
    obtain ⟨z1, e1, h⟩ := Option.bind_eq_some_iff.mp h
    obtain ⟨z2, e2, h⟩ := Option.bind_eq_some_iff.mp h
    cases h
    simp [xflds_len e2]
/-- one store, then the others -/
theorem pu_set {i : Option Nat} {se : SuE} {st : List (Nat × SuE)} {D D' : Ends} {σ : L2.St} {H : Hp} (h : tSu X.K cad a cls d i y ((j, se) :: st) D σ H) (nx : ∀ σ' H', tSu X.K cad a cls d i y st D σ' H' → D'.nx σ' H') :
    tAsg (tU X.K cad a cls d i fun x => suEv y x se) (gName j) D' σ H := by
  obtain ⟨g, ρ, M, x, ρ2, I, e, nj, k⟩ := h
  rw [suRun] at e
  obtain ⟨z, e1, e⟩ := Option.bind_eq_some_iff.mp e
  refine ⟨g, ρ, M, x, z, I, e1, fun v H' x1 r1 => nx _ _ ⟨g, ρ.set j (some (.dat z)), M, x, ρ2, ⟨(I.ex x1).inv.set r1, (I.ex x1).xr, fun jj hj => ?_⟩, e, fun p hp => nj p (List.mem_cons_of_mem _ hp), fun σ' H2 x2 I2 => k σ' H2 (x1.trans x2) I2⟩⟩
  have ne : j ≠ jj := fun z => nj (j, se) List.mem_cons_self (by rw [hj, z])
  rw [List.getElem?_set_ne ne]
  exact I.sl jj hj
theorem pu_end {i : Option Nat} {D : Ends} {σ : L2.St} {H : Hp} (h : tSu X.K cad a cls d i y [] D σ H) : D.nx σ H := by
  obtain ⟨g, ρ, M, x, ρ2, I, e, nj, k⟩ := h
  cases e
  exact k σ H (Ex.refl H) I.inv
end
/-! ### the whole -/
def HdOk (K : PySem.W.Frag) (cad : Cad) (h : Hd) (l : Cl) : Prop := (∃ D, cad h.y = some D ∧ l.c = .ref D) ∧ ExmOk K cad h.y h.tk ∧ l.nm = h.nm ∧ (l.ts = fun a cls d => tSu K cad a cls d h.nm h.y h.st) ∧ ∀ p ∈ h.st, h.nm ≠ some p.1
inductive HdsAll (K : PySem.W.Frag) (cad : Cad) : List Hd → List Cl → Prop
  | nil : HdsAll K cad [] []
  | cons {h : Hd} {l : Cl} {hs : List Hd} {ls : List Cl} (o : HdOk K cad h l) (r : HdsAll K cad hs ls) : HdsAll K cad (h :: hs) (l :: ls)
theorem SInv.off {K : PySem.W.Frag} {cad : Cad} {σ : L2.St} {H : Hp} {g : Gh} {ρ : Env} {M : Mo} (I : SInv K cad σ H g ρ M) (i : Nat) (v : Option V) : SInv K cad (σ.set i v) H g (ρ.set i none) M := by
  have I2 := I.forget (j := i)
  refine ⟨I2.kd, I2.wok, by rw [List.length_set, List.length_set]; exact I.len, fun j d h => ?_, fun j xs h => ?_, fun j k xs ys l ne h1 h2 h3 => ?_⟩
  · by_cases e : j = i
    · subst e
      rw [List.getElem?_set] at h
      split at h <;> first | (split at h <;> cases h) | (exact absurd rfl ‹¬ _›)
    · obtain ⟨v', a1, a2⟩ := I2.dat j d h
      rw [List.getElem?_set_ne (Ne.symm e)] at a1
      exact ⟨v', by rw [List.getElem?_set_ne (Ne.symm e)]; exact a1, a2⟩
  · by_cases e : j = i
    · subst e
      rw [List.getElem?_set] at h
      split at h <;> first | (split at h <;> cases h) | (exact absurd rfl ‹¬ _›)
    · obtain ⟨l, us, a1, a2⟩ := I2.own j xs h
      rw [List.getElem?_set_ne (Ne.symm e)] at a1
      exact ⟨l, us, by rw [List.getElem?_set_ne (Ne.symm e)]; exact a1, a2⟩
  · have n1 : j ≠ i := fun z => by
      subst z
      rw [List.getElem?_set] at h1
      split at h1 <;> first | (split at h1 <;> cases h1) | (exact absurd rfl ‹¬ _›)
    have n2 : k ≠ i := fun z => by
      subst z
      rw [List.getElem?_set] at h2
      split at h2 <;> first | (split at h2 <;> cases h2) | (exact absurd rfl ‹¬ _›)
    rw [List.getElem?_set_ne (Ne.symm n1)] at h1 h3
    rw [List.getElem?_set_ne (Ne.symm n2)] at h2 ⊢
    exact I.sep j k xs ys l ne h1 h2 h3
section
variable {X : Cx} {cad : Cad} {W : WX} {q : Bool} {body : List Stmt} {h0 : ExceptHandler} {hds : List ExceptHandler} {hs : List Hd} {ls : List Cl} {pos : Pos} {f : SF}
theorem hdl_go {D : Ends} {g g' : Gh} {H H' : Hp} {σ' : L2.St} {ρ' : Env} {M' : Mo} {x : Exn} {c : Value} {dd : Option Addr} (ha : HdsAll X.K cad hs ls) (r : Gr q g g' H H') (I : SInv X.K cad σ' H' g' ρ' M') (xr : XRep X.K cad g'.fr H' x c dd)
    (z : (hdl hs x ρ' M').sat (sN X.K cad q D.nx g H) (sR X.K cad q D.rt g H) (sN X.K cad q D.bk g H) (sN X.K cad q D.ct g H) (sX X.K cad W q g H)) : wMix X.K W D ls c dd σ' H' := by
  induction ha with
  | nil => exact z σ' H' g' c dd r I xr
  | @cons h l hs ls o _ ih =>
    obtain ⟨⟨D0, o1, o2⟩, o3, o4, o5, o6⟩ := o
    rw [hdl] at z
    obtain ⟨C, c1, c2, c3⟩ := id xr
    split at z
    · next ht =>
      refine ⟨true, by rw [c2, o2]; exact o3 _ _ _ ht c1 _ o1, fun _ a na => ?_, fun y => nomatch y⟩
      rw [o4, o5]
      split at z
      · next hm =>
        split at z
        · next ρ2 hr =>
          cases hnm : h.nm with
          | none =>
            rw [hnm] at hr z o6
            exact ⟨g', ρ', M', x, ρ2, ⟨I, xr, fun j hj => nomatch hj⟩, hr, o6, fun σ2 H2 e2 I2 => z σ2 H2 g' (r.trans (Gr.ex e2)) I2⟩
          | some i =>
            rw [hnm] at hr z o6 hm
            refine ⟨g', ρ'.set i none, M', x, ρ2, ⟨I.off i _, xr, fun j hj => ?_⟩, hr, o6, fun σ2 H2 e2 I2 => z _ H2 g' (r.trans (Gr.ex e2)) (I2.off i none)⟩
            cases hj
            have hl : i < ρ'.length := of_decide_eq_true hm
            rw [List.getElem?_set_self (by rw [I.len]; exact hl)]
        · exact False.elim z
      · exact False.elim z
    · next ht => exact ⟨false, by rw [c2, o2]; exact o3 _ _ _ ht c1 _ o1, (fun y => nomatch y), fun _ => ih z⟩
    · exact False.elim z
theorem se_try (st : X.stack = X.env :: X.outer) (hf : X.env.frame = some X.env.locals) (hN : X.N.Nodup) (tk : Takes X W)
    (hb : ∀ (W' : WX) (pn : List (Addr × Obj)) (xe : Value → Shared → Prop), Takes (X.tr pn xe) W' → PassesOwn (model X.prog X.w) X.A X.env xe → SEs cad (X.tr pn xe) W' q body f)
    (hh : ClsOk X (h0 :: hds) ls) (ha : HdsAll X.K cad hs ls) : SE cad X W q (.Try body (h0 :: hds) [] [] pos) (sTry f hs) := by
  refine PS.weak (ps_tryX (tb := fun W' => tS X.K cad W' q f) st hf hN tk (fun W' pn xe t p => hb W' pn xe t p) hh) fun D σ H ⟨g, ρ, M, I, z⟩ => ?_
  refine ⟨g, ρ, M, I, ?_⟩
  unfold sTry at z
  cases hfm : f M ρ with
  | next ρ' M' => rw [hfm] at z; exact z
  | ret d M' => rw [hfm] at z; exact z
  | brk ρ' M' => rw [hfm] at z; exact z
  | cont ρ' M' => rw [hfm] at z; exact z
  | bad => rw [hfm] at z; exact z
  | exc x ρ' M' =>
    rw [hfm] at z
    exact fun σ' H' g' c dd r I' xr => hdl_go ha r I' xr z
end
end Rf
/-! # S6: new instances; loud calls -/
namespace Rf
open PySem PySem.Spec PyProof.Rows L2 Evl

section
variable {K : PySem.W.Frag} {cad : Cad} {W : WX} {g g' : Gh} {H H' : Hp} {σ : L2.St} {ρ : Env} {M : Mo}
theorem DicAt.grow {l : Addr} (r : Gr false g g' H H') (e : Ex H H') (k : Kd g H) : ∀ {n : Bool} {kvs : List (Dat × Dat)}, DicAt K cad g H l n kvs → DicAt K cad g' H' l n kvs
  | false, _, ⟨kv, h1, h2, h3⟩ => ⟨kv, e _ _ h1, h2, h3.gr r k⟩
  | true, _, ⟨o, xs, vs, h1, h2, h3, h4, h5, h6⟩ => ⟨o, xs, vs, e _ _ h1, h2, h3, h4.gr r k, h5, h6.gr r k⟩
theorem FldRep.grow {h : Nat} {f : Str} {v : V} (r : Gr false g g' H H') (e : Ex H H') (o : g'.ow = g.ow) (k : Kd g H) : ∀ {fl : Fld}, FldRep K cad g H h f v fl → FldRep K cad g' H' h f v fl
  | .dat _, z => Rep.gr r k z
  | .lst _ _, ⟨l, us, h1, h2, h3, h4, h5⟩ => ⟨l, us, h1, e _ _ h2, by rw [o]; exact h3, h4.gr r k, r.tb h5⟩
  | .dic _ _, ⟨l, h1, h2, h3⟩ => ⟨l, h1, by rw [o]; exact h2, h3.grow r e k⟩
theorem FsRep.grow {h : Nat} (r : Gr false g g' H H') (e : Ex H H') (o : g'.ow = g.ow) (k : Kd g H) {fs : List (Str × V)} {gs : List (Str × Fld)} (t : FsRep K cad g H h fs gs) : FsRep K cad g' H' h fs gs := by
  induction t with
  | nil => exact .nil
  | cons z _ ih => exact .cons (z.grow r e o k) ih
/-- one more instance -/
def Gh.push (g : Gh) (x : Addr) : Gh := { g with tbl := g.tbl ++ [x] }
theorem push_A {x a : Addr} (z : (g.push x).A a) : g.A a ∨ a = x := by
  rcases z with (z | z) | z | z
  · rcases List.mem_append.mp z with z | z
    · exact .inl (.inl (.inl z))
    · exact .inr (List.mem_singleton.mp z)
  · exact .inl (.inl (.inr z))
  · exact .inl (.inr (.inl z))
  · exact .inl (.inr (.inr z))
theorem push_W {x a : Addr} (z : (g.push x).W a) : g.W a ∨ a = x := by
  rcases z with z | z
  · rcases List.mem_append.mp z with z | z
    · exact .inl (.inl z)
    · exact .inr (List.mem_singleton.mp z)
  · exact .inl (.inr z)
theorem push_gr {x : Addr} (e : Ex H H') (nx : H x = none) : Gr false g (g.push x) H H' where
  keep := fun a o h _ _ => e a o h
  keepW := fun z => nomatch z
  dom := ex_dom e
  tbl := ⟨[x], rfl⟩
  W := fun a z => z.elim (fun z => .inl (List.mem_append_left _ z)) .inr
  nW := fun a z => (push_W z).imp id fun z => by rw [z]; exact nx
  qg := fun z => nomatch z
  Lc := rfl
  Lo := fun _ z => z
  nLo := fun _ z => .inl z
theorem push_kd {x : Addr} {o : HO} (k : Kd g H) (e : Ex H H') (nx : H x = none) (hx : H' x = some o) (m : MutK o) : Kd (g.push x) H' where
  ob := fun a z => by
    rcases push_A z with z | rfl
    · obtain ⟨u, h1, h2⟩ := k.ob a z
      exact ⟨u, e _ _ h1, h2⟩
    · exact ⟨o, hx, m⟩
  lo := fun a z y => by
    rcases push_W y with y | rfl
    · exact k.lo a z y
    · obtain ⟨u, h1, _⟩ := k.ob a (.inr (.inr z))
      rw [nx] at h1
      cases h1
  lc := fun a z => by
    refine ⟨fun y => ?_, (k.lc a z).2⟩
    rcases push_W y with y | rfl
    · exact (k.lc a z).1 y
    · obtain ⟨u, h1, _⟩ := k.ob a (.inr (.inl z))
      rw [nx] at h1
      cases h1
theorem push_wok {x : Addr} {c : Str} (k : Kd g H) (w : WOk K cad g H M) (e : Ex H H') (nx : H x = none) (hx : c = "" ∨ ∃ C dx, cad c = some C ∧ H' x = some (.ins C dx [])) : WOk K cad (g.push x) H' (M ++ [⟨c, []⟩]) := by
  have gt : ∀ {h : Nat} {a : Addr}, (g.push x).tbl[h]? = some a → (g.tbl[h]? = some a) ∨ (h = M.length ∧ a = x) := fun {h a} z => by
    have z : (g.tbl ++ [x])[h]? = some a := z
    by_cases hl : h < g.tbl.length
    · rw [List.getElem?_append_left hl] at z
      exact .inl z
    · rw [List.getElem?_append_right (by omega)] at z
      have := (List.getElem?_eq_some_iff.mp z).1
      simp at this
      have e0 : h - g.tbl.length = 0 := by omega
      rw [e0] at z
      cases z
      exact .inr ⟨by rw [← w.len]; omega, rfl⟩
  have nin : ∀ {h : Nat}, ¬ g.tbl[h]? = some x := fun {h} z => by
    obtain ⟨u, h1, _⟩ := k.ob x (.inl (.inl (List.mem_of_getElem? z)))
    rw [nx] at h1
    cases h1
  have ex : ∀ {h : Nat} {i : Inst}, (M ++ [(⟨c, []⟩ : Inst)])[h]? = some i → M[h]? = some i ∨ i = ⟨c, []⟩ := fun {h i} h1 => by
    by_cases hl : h < M.length
    · rw [List.getElem?_append_left hl] at h1
      exact .inl h1
    · rw [List.getElem?_append_right (by omega)] at h1
      exact .inr (List.mem_singleton.mp (List.mem_of_getElem? h1))
  refine ⟨by show (g.tbl ++ [x]).length = _; simp [w.len], fun h j a h1 h2 => ?_, fun h a i h1 h2 hcn => ?_, fun h i h1 => ?_, fun h i h1 => ?_, fun h a i h1 h2 hcn => ?_, fun h i h1 hcn => ?_, w.nc⟩
  · rcases gt h1 with z1 | ⟨z1, rfl⟩
    · rcases gt h2 with z2 | ⟨z2, rfl⟩
      · exact w.inj h j a z1 z2
      · exact absurd z1 nin
    · rcases gt h2 with z2 | ⟨z2, _⟩
      · exact absurd z2 nin
      · omega
  · rcases gt h1 with z1 | ⟨rfl, rfl⟩
    · have hl : h < M.length := by rw [← w.len]; exact (List.getElem?_eq_some_iff.mp z1).1
      rw [List.getElem?_append_left hl] at h2
      obtain ⟨C', dx', fs, c1, c2, c3⟩ := w.ins h a i z1 h2 hcn
      exact ⟨C', dx', fs, c1, e _ _ c2, c3.grow (push_gr e nx) e rfl k⟩
    · rw [List.getElem?_append_right (Nat.le_refl _), Nat.sub_self] at h2
      cases h2
      rcases hx with rfl | ⟨C, dx, hc, hx⟩
      · exact absurd rfl hcn
      · exact ⟨C, dx, [], hc, hx, .nil⟩
  · rcases ex h1 with h1 | rfl
    · exact w.nd h i h1
    · exact List.nodup_nil
  · rcases ex h1 with h1 | rfl
    · exact w.fd h i h1
    · exact fun f hf => absurd hf List.not_mem_nil
  · rcases gt h1 with z1 | ⟨_, rfl⟩
    · have hl : h < M.length := by rw [← w.len]; exact (List.getElem?_eq_some_iff.mp z1).1
      rw [List.getElem?_append_left hl] at h2
      exact w.tw h a i z1 h2 hcn
    · cases hz : g.ow a with
      | none => exact hz
      | some p =>
        obtain ⟨u, h2, _⟩ := k.ob a (.inl (.inr (by rw [hz]; exact fun y => nomatch y)))
        rw [nx] at h2
        cases h2
  · rcases ex h1 with h1 | rfl
    · exact w.dm h i h1 hcn
    · rfl
theorem SInv.grow {M' : Mo} (r : Gr false g g' H H') (e : Ex H H') (lo : g'.Lo = g.Lo) (k' : Kd g' H') (w' : WOk K cad g' H' M') (I : SInv K cad σ H g ρ M) : SInv K cad σ H' g' ρ M' where
  kd := k'
  wok := w'
  len := I.len
  dat := fun i d h => by
    obtain ⟨v, h1, h2⟩ := I.dat i d h
    exact ⟨v, h1, h2.gr r I.kd⟩
  own := fun i xs h => by
    obtain ⟨l, us, h1, h2, h3, h4⟩ := I.own i xs h
    exact ⟨l, us, h1, e _ _ h2, by rw [lo]; exact h3, h4.gr r I.kd⟩
  sep := I.sep
end
/-- where nothing that is raised leaves -/
theorem fn_no {P : Program} {w : World} {K : PySem.W.Frag} {mg : Str → Option Value} {base : Heap} {k : Nat} {f : Addr} {fd : FuncData} {ps : List Str} {sp : Sp} (F : FnOk P w K mg base (L2.CX P w) k f fd ps sp) : FnOk P w K mg base L2.CX0 k f fd ps fun vs H Q _ => sp vs H Q fun _ _ _ => False :=
  ⟨fun vs H Q E h => F.len vs H Q _ h, fun A outer s H args us vs Q E hr he hb hv h => codeAny_mono (F.run A outer s H args us vs Q _ hr he hb hv h) fun r s' z => by
    unfold CR at z ⊢
    split at z
    · exact z
    · exact z
    · obtain ⟨a, B, H', cls, d, _, _, _, _, _, _, _, y⟩ := z
      exact False.elim y⟩
/-! ### C(..) -/
def gNew (x : Str) (m : Mo → List Dat → GOut Dat) (as : QA) : GF := fun M ρ => ((as M ρ).at M).bind fun ds _ => match m (M ++ [⟨x, []⟩]) (obj M.length :: ds) with
  | .ok .none M' => .ok (obj M.length) M'
  | _ => .bad
section
variable {X : Cx} {cad : Cad} {W : WX} {x : Str} {pos p : Pos} {k n : Nat} {m : Mo → List Dat → GOut Dat} {as : QA} {t : TA} {e : Expr} {es : List Expr}
theorem new_go {C f : Addr} {fd : FuncData} {ps : List Str} (hc : cad x = some C) (hp : ps.length = n + 1) (hn : ∀ M ρ ds, as M ρ = .ok ds → ds.length = n) (ht : ∀ σ H Q, tQA X.K cad W as σ H Q → t σ H Q) (σ : L2.St) (H : Hp) (Q : VK) (h : tE X.K cad W false (gNew x m as) σ H Q) :
    tMake C (fun vs H Q _ => spG X.K cad ps.length m vs H Q fun _ _ _ => False) [] (fun _ _ _ => False) t σ H Q := by
  obtain ⟨g, ρ, M, I, h⟩ := h
  unfold gNew at h
  have h := h.bnd
  refine ht σ H _ ⟨g, ρ, M, I, ?_⟩
  cases has : as M ρ with
  | exc x => rw [has] at h; exact fun H' c dd e r => h H' g c dd (Gr.ex e) (I.ex e) r
  | bad => rw [has] at h; exact False.elim h
  | ok ds =>
    rw [has] at h
    intro vs H1 e1 r1 y dx ny ndx ne
    have I1 := I.ex e1
    have e2 : Ex H1 (upd (upd H1 dx (.own y)) y (.ins C dx [])) := by
      refine (Ex.new ndx).trans (Ex.new ?_)
      rw [upd_ne ne.symm]
      exact ny
    have hy : upd (upd H1 dx (.own y)) y (.ins C dx []) y = some (.ins C dx []) := upd_same
    have gr := push_gr (g := g) e2 ny
    have kd := push_kd I1.kd e2 ny hy trivial
    have wk := push_wok (c := x) I1.kd I1.wok e2 ny (.inr ⟨C, dx, hc, hy⟩)
    have I2 := I1.grow gr e2 rfl kd wk
    have hb : (g.push y).tbl[M.length]? = some y := by
      show (g.tbl ++ [y])[M.length]? = _
      rw [← I1.wok.len, List.getElem?_append_right (Nat.le_refl _), Nat.sub_self]
      rfl
    refine ⟨by rw [List.append_nil, List.length_cons, r1.length, hn M ρ ds has, hp], g.push y, M ++ [⟨x, []⟩], obj M.length :: ds, kd, wk, .cons (.obj hb) (by rw [List.append_nil]; exact r1.gr gr I1.kd), ?_⟩
    have h : GOut.sat (match m (M ++ [(⟨x, []⟩ : Inst)]) (obj M.length :: ds) with
      | .ok .none M' => GOut.ok (obj M.length) M'
      | _ => .bad) (fun d M' => ∀ v H' g', Gr false g g' H H' → SInv X.K cad σ H' g' ρ M' → Rep X.K g' H' v d → Q v H') (gE X.K cad W false g H σ ρ) := h
    cases hm : m (M ++ [⟨x, []⟩]) (obj M.length :: ds) with
    | bad => rw [hm] at h; exact False.elim h
    | exc z M' => rw [hm] at h; exact False.elim h
    | ok d M' =>
      rw [hm] at h
      cases d with
      | none => exact fun v H' g' c k' w' r' => ⟨by cases r'; rfl, h (.ref y) H' g' (((Gr.ex e1).trans gr).trans c.gr) (I2.call c k' w') (.obj (c.gr.tb hb))⟩
      | _ => exact False.elim h
theorem ge_new (hr : Room k X.A) (g : GVok X.prog X.w X.K X.mg X.base cad k x (.cls n m)) (hg : Gl X x) (hd : (x == ("__debug__" : Str)) = false) (ha : QAe cad X W (e :: es) as) (hs : (e :: es).all nst = true) (hn : ∀ M ρ ds, as M ρ = .ok ds → ds.length = n) :
    GE cad X W false (.Call (.Name x p) (e :: es) [] pos) (gNew x m as) := by
  obtain ⟨C, f, fd, ps, j, g1, g2, _, g3, hj, hp, hB, F⟩ := g
  have hs' := hs
  rw [List.all_cons, Bool.and_eq_true] at hs'
  exact PE.weak (pe_make (E := fun _ _ _ => False) g3 (fn_no F) (hr.mono hj) hg g1 hB .nil pass0 ha hd (star1 hs'.1 es) (star_any es hs'.2)) fun σ H Q h => new_go (f := f) (fd := fd) g2 hp hn (fun _ _ _ z => z) σ H Q h
theorem ge_new0 (hr : Room k X.A) (g : GVok X.prog X.w X.K X.mg X.base cad k x (.cls 0 m)) (hg : Gl X x) (hd : (x == ("__debug__" : Str)) = false) : GE cad X W false (.Call (.Name x p) [] [] pos) (gNew x m qNil) := by
  obtain ⟨C, f, fd, ps, j, g1, g2, _, g3, hj, hp, hB, F⟩ := g
  exact PE.weak (pe_make0 (E := fun _ _ _ => False) g3 (fn_no F) (hr.mono hj) hg g1 hB .nil pass0 hd) fun σ H Q h => new_go (f := f) (fd := fd) (as := qNil) g2 hp (fun M ρ ds z => by cases z; rfl) (fun σ H Q ⟨g, ρ, M, I, z⟩ => z [] H (Ex.refl H) .nil) σ H Q h
end
/-! ### calls of loud defs -/
def gCall (m : Mo → List Dat → GOut Dat) (as : QA) : GF := fun M ρ => ((as M ρ).at M).bind fun ds _ => m M ds
section
variable {X : Cx} {cad : Cad} {W : WX} {e : Expr} {es : List Expr} {pos p : Pos} {x : Str} {k : Nat} {f : Addr} {fd : FuncData} {ps : List Str}
theorem ge_call {m : Mo → List Dat → GOut Dat} {as : QA} (tk : Takes X W) (F : FnOk X.prog X.w X.K X.mg X.base (L2.CX X.prog X.w) k f fd ps (spG X.K cad ps.length m)) (hr : Room k X.A) (hg : Gl X x) (hm : X.mg x = some (.ref f)) (hk : PySem.W.keepIn X.K (.ref f) = true) (hb : Binds X.K fd ps [])
    (ha : QAe cad X W (e :: es) as) (hl : (e :: es).length = ps.length) (hd : (x == ("__debug__" : Str)) = false) (hs : (e :: es).all nst = true) (hn : ∀ M ρ ds, as M ρ = .ok ds → ds.length = (e :: es).length) : GE cad X W false (.Call (.Name x p) (e :: es) [] pos) (gCall m as) := by
  have hs' := hs
  rw [List.all_cons, Bool.and_eq_true] at hs'
  refine PE.weak (pe_callS (E := fun σ => WE W σ) F hr hg hm hk hb (fun σ => passAt tk σ) ha hd (star1 hs'.1 es) (star_any es hs'.2)) fun σ H Q ⟨g, ρ, M, I, h⟩ => ?_
  refine ⟨g, ρ, M, I, ?_⟩
  have h := h.bnd
  cases has : as M ρ with
  | exc x => rw [has] at h; exact fun H' c dd e r => h H' g c dd (Gr.ex e) (I.ex e) r
  | bad => rw [has] at h; exact False.elim h
  | ok ds =>
    rw [has] at h
    have h : (m M ds).sat (fun d M' => ∀ v H' g', Gr false g g' H H' → SInv X.K cad σ H' g' ρ M' → Rep X.K g' H' v d → Q v H') (gE X.K cad W false g H σ ρ) := h
    intro vs H1 e1 r1
    exact ⟨by rw [r1.length, hn M ρ ds has]; exact hl, g, M, ds, I.kd.ex e1, I.wok.ex e1 I.kd, r1, h.mono (fun d M' kk v H' g' c k' w' r' => kk v H' g' ((Gr.ex e1).trans c.gr) ((I.ex e1).call c k' w') r') fun x M' kk H' g' cc dd c k' w' r' => kk H' g' cc dd ((Gr.ex e1).trans c.gr) ((I.ex e1).call c k' w') r'⟩
end
end Rf
/-! # S7: stores to fields -/
namespace Rf
open PySem PySem.Spec PyProof.Rows L2 Evl

/-- the fields of the classes, as the text is read by -/
abbrev Ft := List (Str × List Str)
def Ft.has (ft : Ft) (c f : Str) : Bool := match ft.lookup c with
  | some fs => fs.contains f
  | none => false
def FtOk (ft : Ft) (cad : Cad) : Prop := ∀ c f, ft.has c f = true → f ∈ cad.fl c
def unH : Dat → Option Nat
  | .dict [(.none, .int (.ofNat h))] => some h
  | _ => none
theorem unH_some {d : Dat} {h : Nat} (e : unH d = some h) : d = obj h := by
  unfold unH at e
  split at e
  · cases e; rfl
  · cases e
/-- where the instance is -/
def instD (M : Mo) (d : Dat) : Option (Nat × Inst) := (unH d).bind fun h => (M[h]?).bind fun i => match i.cls == "" with
  | true => none
  | false => some (h, i)
theorem instD_some {M : Mo} {d : Dat} {h : Nat} {i : Inst} (e : instD M d = some (h, i)) : d = obj h ∧ M[h]? = some i ∧ i.cls ≠ "" := by
  unfold instD at e
  obtain ⟨h', e1, e⟩ := Option.bind_eq_some_iff.mp e
  obtain ⟨i', e2, e⟩ := Option.bind_eq_some_iff.mp e
  split at e
  · cases e
  · next hc =>
    cases e
    exact ⟨unH_some e1, e2, fun z => by rw [z] at hc; cases hc⟩
/-- o.f = e -/
def sFldD (ft : Ft) (o : QF) (f : Str) (e : GF) : SF := fun M ρ => (e M ρ).then ρ fun d M1 => ((o M1 ρ).at M1).then ρ fun od M2 => match instD M2 od with
  | some (h, i) => match ft.has i.cls f && decide (i.fs.length < 100) with
    | true => .next ρ (M2.set h (i.put f (.dat d)))
    | false => .bad
  | none => .bad
theorem SInv.chg {K : PySem.W.Frag} {cad : Cad} {σ : L2.St} {H H' : Hp} {g g' : Gh} {ρ : Env} {M M' : Mo} {h : Nat} {f : Str} (I : SInv K cad σ H g ρ M) (c : Chg M g g' H H' h f) (w : WOk K cad g' H' M') : SInv K cad σ H' g' ρ M' := I.call c.gc c.kd w
section
variable {X : Cx} {cad : Cad} {W : WX} {o e : Expr} {f : Str} {pos pos' : Pos} {ft : Ft} {fo : QF}
/-- an instance as an expression tells it -/
theorem inst_go {K : PySem.W.Frag} {g : Gh} {H : Hp} {M : Mo} {d : Dat} {v : V} {h : Nat} {i : Inst} (co : CadOk K cad) (fk : FtOk ft cad) (w : WOk K cad g H M) (r : WRep K g H v d) (hi : instD M d = some (h, i)) (hf : ft.has i.cls f = true) : ∃ a C dx fs, d = obj h ∧ M[h]? = some i ∧ i.cls ≠ "" ∧ g.tbl[h]? = some a ∧ v = .ref a ∧ cad i.cls = some C ∧ H a = some (.ins C dx fs) ∧ FsRep K cad g H h fs i.fs ∧ Cls K C ∧ NoAttr K C f ∧ f ∈ cad.fl i.cls := by
  obtain ⟨rfl, h1, h2⟩ := instD_some hi
  obtain ⟨a, rfl, ha⟩ := wr_obj r
  obtain ⟨C, dx, fs, c1, c2, c3⟩ := w.ins h a i ha h1 h2
  have hfl := fk _ _ hf
  obtain ⟨k1, k2⟩ := co i.cls C f c1 hfl
  exact ⟨a, C, dx, fs, rfl, h1, h2, ha, rfl, c1, c2, c3, k1, k2, hfl⟩
theorem se_fldD {fe : GF} (co : CadOk X.K cad) (fk : FtOk ft cad) (ho : QW cad X W o fo) (he : GE cad X W false e fe) (hs : swapsWith e (some (.Attribute o f pos')) pos.line X.env = pure false) : SE cad X W false (.Assign [.Attribute o f pos'] e pos) (sFldD ft fo f fe) := by
  refine PS.weak (ps_fld ho he hs) fun D σ H ⟨g, ρ, M, I, z⟩ => ?_
  refine tE.go I (then_sat (σ := σ) z) fun d M1 v H1 g1 k1 r1 I1 rv => ?_
  refine tW.go I1 (k := fun od => ((match instD M1 od with
    | some (h, i) => match ft.has i.cls f && decide (i.fs.length < 100) with
      | true => SOut.next ρ (M1.set h (i.put f (.dat d)))
      | false => .bad
    | none => .bad).sat (sN X.K cad false D.nx g H) (sR X.K cad false D.rt g H) (sN X.K cad false D.bk g H) (sN X.K cad false D.ct g H) (sX X.K cad W false g H))) ?_ fun od u H2 k2 e2 ru => ?_
  · have k1 := Out.sat_at (then_sat (σ := σ) k1)
    exact k1.mono (fun _ y => y) fun x y H' c dd ex rx => y H' g1 c dd (r1.trans (Gr.ex ex)) (I1.ex ex) rx
  · have I2 := I1.ex e2
    split at k2
    · next h i hi =>
      split at k2
      · next hb =>
        rw [Bool.and_eq_true] at hb
        obtain ⟨a, C, dx, fs, _, m1, m2, ha, rfl, c1, c2, c3, c4, c5, c6⟩ := inst_go co fk I2.wok ru hi hb.1
        refine ⟨a, C, dx, fs, rfl, c2, c4, c5, ?_, ?_⟩
        · have := of_decide_eq_true hb.2
          rw [c3.len]
          omega
        · have ch := chg_dat (f := f) (C := C) (dx := dx) (fs' := putF f v fs) I2.kd I2.wok ha m1 m2
          have w' := I2.wok.chg I2.kd ch ha m1 m2 c6 c1 c3 upd_same (fl := .dat d) (show Rep X.K g1 _ v d from (rv.ex e2 I1.kd).gr ch.gc.gr I2.kd)
          exact k2 σ _ g1 ((r1.trans (Gr.ex e2)).trans ch.gc.gr) (I2.chg ch w')
      · exact False.elim k2
    · exact False.elim k2
end
-- to other ghosts
mutual
theorem Rep.mv {K : PySem.W.Frag} {g g' : Gh} {H : Hp} (tb : ∀ (h : Nat) (a : Addr), g.tbl[h]? = some a → g'.tbl[h]? = some a) (n : ∀ a, g'.A a → g.A a) : ∀ {v : V} {d : Dat}, Rep K g H v d → Rep K g' H v d
  | _, _, .non => .non
  | _, _, .bl b => .bl b
  | _, _, .int i => .int i
  | _, _, .str x => .str x
  | _, _, .tup h t => .tup h (Reps.mv tb n t)
  | _, _, .lst h t => .lst (h.elim (fun z => .inl ⟨z.1, fun y => z.2 (n _ y)⟩) .inr) (Reps.mv tb n t)
  | _, _, .obj h => .obj (tb _ _ h)
theorem Reps.mv {K : PySem.W.Frag} {g g' : Gh} {H : Hp} (tb : ∀ (h : Nat) (a : Addr), g.tbl[h]? = some a → g'.tbl[h]? = some a) (n : ∀ a, g'.A a → g.A a) : ∀ {vs : List V} {ds : List Dat}, Reps K g H vs ds → Reps K g' H vs ds
  | _, _, .nil => .nil
  | _, _, .cons h t => .cons (Rep.mv tb n h) (Reps.mv tb n t)
end
/-- o.f = [..] -/
def sFldL (ft : Ft) (o : QF) (f : Str) (e : IF) : SF := fun M ρ => ((e M ρ).at M).then ρ fun xs M0 => ((o (M0 ++ [⟨"", []⟩]) ρ).at (M0 ++ [⟨"", []⟩])).then ρ fun od M2 => match instD M2 od with
  | some (h, i) => match ft.has i.cls f && decide (i.fs.length < 100) with
    | true => .next ρ (M2.set h (i.put f (.lst M0.length xs)))
    | false => .bad
  | none => .bad
/-- a new list, with a handle -/
theorem push_list {K : PySem.W.Frag} {cad : Cad} {σ : L2.St} {H H' : Hp} {g : Gh} {ρ : Env} {M : Mo} {l : Addr} {o : HO} (I : SInv K cad σ H g ρ M) (nl : H l = none) (e : Ex H H') (hl : H' l = some o) (m : MutK o) : Gr false g (g.push l) H H' ∧ SInv K cad σ H' (g.push l) ρ (M ++ [⟨"", []⟩]) ∧ (g.push l).tbl[M.length]? = some l ∧ (g.push l).ow l = none ∧ (M ++ [(⟨"", []⟩ : Inst)])[M.length]? = some ⟨"", []⟩ := by
  have gr := push_gr (g := g) e nl
  have kd := push_kd I.kd e nl hl m
  have wk := push_wok (c := "") I.kd I.wok e nl (.inl rfl)
  refine ⟨gr, I.grow gr e rfl kd wk, ?_, ?_, ?_⟩
  · show (g.tbl ++ [l])[M.length]? = _
    rw [← I.wok.len, List.getElem?_append_right (Nat.le_refl _), Nat.sub_self]
    rfl
  · cases hz : g.ow l with
    | none => exact hz
    | some p =>
      obtain ⟨u, h1, _⟩ := I.kd.ob l (.inl (.inr (by rw [hz]; exact fun y => nomatch y)))
      rw [nl] at h1
      cases h1
  · rw [List.getElem?_append_right (Nat.le_refl _), Nat.sub_self]
    rfl
section
variable {X : Cx} {cad : Cad} {W : WX} {o e : Expr} {f : Str} {pos pos' p1 apos epos spos : Pos} {ft : Ft} {fo : QF}
theorem se_fldL {fe : IF} (co : CadOk X.K cad) (fk : FtOk ft cad) (ho : QW cad X W o fo) (he : FE cad X W e fe) (hs : swapsWith e (some (.Attribute o f pos')) pos.line X.env = pure false) : SE cad X W false (.Assign [.Attribute o f pos'] e pos) (sFldL ft fo f fe) := by
  refine PS.weak (ps_fld ho he hs) fun D σ H ⟨g, ρ, M, I, z⟩ => ?_
  refine ⟨g, ρ, M, I, ?_⟩
  unfold sFldL at z
  cases hf : fe M ρ with
  | exc x => rw [hf] at z; exact fun H' c dd e r => z σ H' g c dd (Gr.ex e) (I.ex e) r.fr
  | bad => rw [hf] at z; exact False.elim z
  | ok xs =>
    rw [hf] at z
    intro l us H1 nl e1 hl rs
    obtain ⟨gr, I1, tb, ow, mm⟩ := push_list I nl e1 hl trivial
    have rs1 : Reps X.K (g.push l) H1 us xs := Reps.mv (g := g.add l) (g' := g.push l) (fun h a z => gr.tb (g := g) z) (fun a z => by
      rcases push_A z with z | rfl
      · rcases z with z | z | z
        · exact .inl z
        · exact .inr (.inl z)
        · exact .inr (.inr (show g.Lo a ∨ a = l from Or.inl z))
      · exact .inr (.inr (show g.Lo a ∨ a = a from Or.inr rfl))) rs
    have z : (((fo (M ++ [⟨"", []⟩]) ρ).at (M ++ [⟨"", []⟩])).then ρ fun od M2 => match instD M2 od with
      | some (h, i) => match ft.has i.cls f && decide (i.fs.length < 100) with
        | true => .next ρ (M2.set h (i.put f (.lst M.length xs)))
        | false => .bad
      | none => .bad).sat (sN X.K cad false D.nx g H) (sR X.K cad false D.rt g H) (sN X.K cad false D.bk g H) (sN X.K cad false D.ct g H) (sX X.K cad W false g H) := z
    have k1 := Out.sat_at (then_sat (σ := σ) z)
    refine tW.go I1 (k1.mono (fun _ y => y) fun x y H' c dd ex rx => y H' _ c dd (gr.trans (Gr.ex ex)) (I1.ex ex) rx) fun od u H2 k2 e2 ru => ?_
    have I2 := I1.ex e2
    split at k2
    · next h i hi =>
      split at k2
      · next hb =>
        rw [Bool.and_eq_true] at hb
        obtain ⟨a, C, dx, fs, _, m1, m2, ha, rfl, c1, c2, c3, c4, c5, c6⟩ := inst_go co fk I2.wok ru hi hb.1
        have nla : l ≠ a := fun z => by
          subst z
          cases I2.wok.inj _ _ _ ha tb
          rw [mm] at m1
          cases m1
          exact m2 rfl
        refine ⟨a, C, dx, fs, rfl, c2, c4, c5, ?_, ?_⟩
        · have := of_decide_eq_true hb.2
          rw [c3.len]
          omega
        · have ch := chg_own (f := f) (C := C) (dx := dx) (fs' := putF f (.ref l) fs) I2.kd I2.wok ha m1 m2 tb mm ow
          have w' := I2.wok.chg I2.kd ch ha m1 m2 c6 c1 c3 upd_same (v := .ref l) (fl := .lst M.length xs) ⟨l, us, rfl, by rw [upd_ne nla]; exact e2 _ _ hl, if_pos rfl, (rs1.ex e2 I1.kd).gr ch.gc.gr I2.kd, ch.gc.gr.tb tb⟩
          exact k2 σ _ _ ((gr.trans (Gr.ex e2)).trans ch.gc.gr) (I2.chg ch w')
      · exact False.elim k2
    · exact False.elim k2
/-- the list that a field is -/
def lstD (M : Mo) (f : Str) (d : Dat) : Option (Nat × Inst × Nat × List Dat) := (instD M d).bind fun p => match p.2.fs.lookup f with
  | some (.lst n xs) => some (p.1, p.2, n, xs)
  | _ => none
theorem lstD_go {K : PySem.W.Frag} {g : Gh} {H : Hp} {M : Mo} {d : Dat} {v : V} {h n : Nat} {i : Inst} {xs : List Dat} (co : CadOk K cad) (w : WOk K cad g H M) (r : WRep K g H v d) (hi : lstD M f d = some (h, i, n, xs)) :
    ∃ a C dx fs l us, d = obj h ∧ M[h]? = some i ∧ i.cls ≠ "" ∧ i.fs.lookup f = some (.lst n xs) ∧ g.tbl[h]? = some a ∧ v = .ref a ∧ cad i.cls = some C ∧ H a = some (.ins C dx fs) ∧ FsRep K cad g H h fs i.fs ∧ Cls K C ∧ NoAttr K C f ∧ f ∈ cad.fl i.cls ∧ fs.lookup f = some (.ref l) ∧ H l = some (.lst us) ∧ g.ow l = some (h, f) ∧ Reps K g H us xs ∧ g.tbl[n]? = some l := by
  unfold lstD at hi
  obtain ⟨⟨h', i'⟩, h1, hi⟩ := Option.bind_eq_some_iff.mp hi
  split at hi
  · next n' xs' hl =>
    cases hi
    obtain ⟨rfl, m1, m2⟩ := instD_some h1
    obtain ⟨a, rfl, ha⟩ := wr_obj r
    obtain ⟨C, dx, fs, c1, c2, c3⟩ := w.ins _ a _ ha m1 m2
    have hfl := w.fd _ _ m1 f (lookup_mem hl)
    obtain ⟨k1, k2⟩ := co _ C f c1 hfl
    obtain ⟨u, l1, l, us, rfl, l3, l4, l5, l6⟩ := c3.get hl
    exact ⟨a, C, dx, fs, l, us, rfl, m1, m2, hl, ha, rfl, c1, c2, c3, k1, k2, hfl, l1, l3, l4, l5, l6⟩
  · cases hi
/-- the list of a field changes -/
theorem lst_chg {K : PySem.W.Frag} {σ : L2.St} {ρ : Env} {g : Gh} {H : Hp} {M : Mo} {h n : Nat} {i : Inst} {ys : List Dat} {a C dx l : Addr} {fs : List (Str × V)} {us' : List V} (I : SInv K cad σ H g ρ M) (m1 : M[h]? = some i) (m2 : i.cls ≠ "") (ha : g.tbl[h]? = some a) (c1 : cad i.cls = some C) (c2 : H a = some (.ins C dx fs)) (c3 : FsRep K cad g H h fs i.fs) (hfl : f ∈ cad.fl i.cls) (l1 : fs.lookup f = some (.ref l)) (l4 : g.ow l = some (h, f)) (l6 : g.tbl[n]? = some l) (rs : Reps K g H us' ys) :
    Gr false g g H (upd H l (.lst us')) ∧ SInv K cad σ (upd H l (.lst us')) g ρ (M.set h (i.put f (.lst n ys))) := by
  have ch := chg_in (o' := .lst us') I.kd I.wok l4 trivial
  have nla : a ≠ l := fun z => by
    subst z
    rw [I.wok.tw h a i ha m1 m2] at l4
    cases l4
  have w' := I.wok.chg I.kd ch ha m1 m2 hfl c1 (dx := dx) c3 (v := .ref l) (fl := .lst n ys) (by rw [upd_ne nla, putF_same l1]; exact c2) ⟨l, us', rfl, upd_same, l4, rs.gr ch.gc.gr I.kd, l6⟩
  exact ⟨ch.gc.gr, I.chg ch w'⟩
/-- o.f.append(e) -/
def sAppF (f : Str) (o : QF) (e : GF) : SF := fun M ρ => ((o M ρ).at M).then ρ fun od M0 => match lstD M0 f od with
  | some (_, _, n, _) => (e M0 ρ).then ρ fun d M1 => match lstD M1 f od with
    | some (h, i, n', xs) => match n == n' && decide (xs.length < 100000) with
      | true => .next ρ (M1.set h (i.put f (.lst n (xs ++ [d]))))
      | false => .bad
    | none => .bad
  | none => .bad
theorem se_appF {fe : GF} (co : CadOk X.K cad) (ho : QW cad X W o fo) (hb : baseOk o = true) (he : GE cad X W false e fe) (hs : nst e = true) (hl : (apos.endLine == pos.line) = true) :
    SE cad X W false (.Expr (.Call (.Attribute (.Attribute o f p1) "append" apos) [e] [] pos) epos) (sAppF f fo fe) := by
  have h0 := pe_fld (X := X) (pos := p1) (f := f) ho (base_ok hb)
  have h1 := pa_cons he pa_nil (star1 hs [])
  have key := pe_bm (X := X) (cpos := pos) (apos := apos) PySem.F.plainAttrs_list PySem.F.slot_list_append PySem.F.type_list_append mt_append h0 h1 (base_ok rfl) (few (by simp [hs]) (by simp)) hl (star1 hs []) (by with_unfolding_all rfl)
  refine PS.weak (ps_expr key (by with_unfolding_all rfl)) fun D σ H ⟨g, ρ, M, I, z⟩ => ?_
  unfold sAppF at z
  have k1 := Out.sat_at (then_sat (σ := σ) z)
  refine tW.go I (k1.mono (fun _ y => y) fun x y H' c dd ex rx => y H' _ c dd (Gr.ex ex) (I.ex ex) rx) fun od u H1 k2 e1 ru => ?_
  have I1 := I.ex e1
  split at k2
  · next h0' i0 n xs0 hi =>
    obtain ⟨a, C, dx, fs, l, us, rfl, m1, m2, ml, ha, rfl, c1, c2, c3, c4, c5, c6, l1, l3, l4, l5, l6⟩ := lstD_go co I1.wok ru hi
    refine ⟨a, C, dx, fs, .ref l, rfl, c2, c4, c5, l1, .inl ⟨rfl, us, sq_of l3⟩, ?_⟩
    refine tE.go I1 ((then_sat (σ := σ) k2).mono (fun _ _ y => y) fun x M' y => y.gr (Gr.ex e1)) fun d M1 v H2 g2 k3 r2 I2 rv => ?_
    split at k3
    · next h i n' xs hi2 =>
      split at k3
      · next hg =>
        rw [Bool.and_eq_true] at hg
        cases eq_of_beq hg.1
        have ru2 : WRep X.K g2 H2 (.ref a) (obj h0') := Rep.weak (.obj (r2.tb ha))
        obtain ⟨a', C', dx', fs', l', us', eh, n1, n2, nl, hb', ea, d1, d2, d3, d4, d5, d6, p1, p3, p4, p5, p6⟩ := lstD_go co I2.wok ru2 hi2
        cases ea
        have el : l' = l := Option.some.inj (p6.symm.trans (r2.tb l6))
        subst el
        obtain ⟨gr, I3⟩ := lst_chg (us' := us' ++ [v]) (ys := xs ++ [d]) I2 n1 n2 hb' d1 d2 d3 d6 p1 p4 p6 (p5.append (.cons rv .nil))
        refine ⟨l', us', v, rfl, rfl, p3, sz_lt (by rw [p5.length]; exact of_decide_eq_true hg.2), ?_⟩
        exact k3 σ _ g2 (((Gr.ex e1).trans r2).trans gr) I3
      · exact False.elim k3
    · exact False.elim k3
  · exact False.elim k2
/-- o.f[i] = e -/
def sSetF (f : Str) (o fi e : QF) : SF := fun M ρ => ((e M ρ).at M).then ρ fun d _ => ((o M ρ).at M).then ρ fun od _ => match lstD M f od with
  | some (h, i, n, xs) => ((fi M ρ).at M).then ρ fun k _ => match k with
    | .int k => match ixN xs.length k with
      | some j => .next ρ (M.set h (i.put f (.lst n (xs.set j d))))
      | none => .bad
    | _ => .bad
  | none => .bad
theorem se_setF {i : Expr} {fi fe : QF} (co : CadOk X.K cad) (ho : QW cad X W o fo) (hb : baseOk o = true) (he : QE cad X W e fe) (hi : QE cad X W i fi)
    (ha : ∀ v, assign (.Subscript (.Attribute o f p1) i spos) X.env v = (do
      let ov ← holding [v] (eval (.Attribute o f p1) X.env)
      let iv ← holding [v, ov] (eval i X.env)
      standAt spos
      holding [v, ov, iv] (setItem ov iv v)
      release [v, ov, iv] []))
    (hs : swapsWithSole [.Subscript (.Attribute o f p1) i spos] e pos.line X.env = pure false) (h1 : (assignEach [.Subscript (.Attribute o f p1) i spos] X.env).map (·.2) = [assign (.Subscript (.Attribute o f p1) i spos) X.env]) : SE cad X W false (.Assign [.Subscript (.Attribute o f p1) i spos] e pos) (sSetF f fo fi fe) := by
  have h0 := pe_fld (X := X) (pos := p1) (f := f) ho (base_ok hb)
  refine PS.weak (ps_asg he (pg_sub h0 hi set_list ha) hs (by with_unfolding_all rfl) h1) fun D σ H ⟨g, ρ, M, I, z⟩ => ?_
  unfold sSetF at z
  have k1 := Out.sat_at (then_sat (σ := σ) z)
  refine tQ.go I (k1.mono (fun _ y => y) fun x y H' c dd ex rx => y H' _ c dd (Gr.ex ex) (I.ex ex) rx) fun d v H1 k2 e1 rv => ?_
  have I1 := I.ex e1
  have k2 := Out.sat_at (then_sat (σ := σ) k2)
  refine tW.go I1 (k2.mono (fun _ y => y) fun x y H' c dd ex rx => y H' _ c dd ((Gr.ex e1).trans (Gr.ex ex)) (I1.ex ex) rx) fun od u H2 k3 e2 ru => ?_
  have I2 := I1.ex e2
  have e12 := e1.trans e2
  split at k3
  · next h i' n xs hl =>
    obtain ⟨a, C, dx, fs, l, us, rfl, m1, m2, ml, ha', rfl, c1, c2, c3, c4, c5, c6, l1, l3, l4, l5, l6⟩ := lstD_go co I2.wok ru hl
    refine ⟨a, C, dx, fs, .ref l, rfl, c2, c4, c5, l1, ?_⟩
    have k3 := Out.sat_at (then_sat (σ := σ) k3)
    refine tQ.go I2 (k3.mono (fun _ y => y) fun x y H' c dd ex rx => y H' _ c dd ((Gr.ex e12).trans (Gr.ex ex)) (I2.ex ex) rx) fun k w H3 k4 e3 rw' => ?_
    have I3 := I2.ex e3
    cases k with
    | int k =>
      simp only at k4
      split at k4
      · next j hj =>
        cases rw'
        obtain ⟨gr, I4⟩ := lst_chg (us' := us.set j v) (ys := xs.set j d) I3 m1 m2 ha' c1 (e3 _ _ c2) (c3.ex e3 I2.kd) c6 l1 l4 l6 (((l5.ex e3 I2.kd).set ((rv.ex e2 I1.kd).ex e3 I2.kd) j))
        refine ⟨l, us, k, j, rfl, rfl, e3 _ _ l3, by rw [l5.length]; exact hj, ?_⟩
        exact k4 σ _ g ((Gr.ex (e12.trans e3)).trans gr) I4
      · exact False.elim k4
    | _ => exact False.elim k4
  · exact False.elim k3
/-- o.f += e -/
def sAugF (ft : Ft) (f : Str) (o e : QF) : SF := fun M ρ => ((o M ρ).at M).then ρ fun od _ => match instD M od with
  | some (h, i) => match i.fs.lookup f, ft.has i.cls f && decide (i.fs.length < 100) with
    | some (.dat (.int a)), true => ((e M ρ).at M).then ρ fun d _ => match d with
      | .int b => .next ρ (M.set h (i.put f (.dat (.int (a + b)))))
      | _ => .bad
    | _, _ => .bad
  | none => .bad
theorem inop_add : InOp X .Add (fun x y H Q => ∃ i j, x = .int i ∧ y = .int j ∧ Q (.int (i + j)) H) := by
  intro pins s σ H x y u v Q I rx ry h
  obtain ⟨i, j, rfl, rfl, q⟩ := h
  exact iop_add pins s σ H _ _ u v Q I rx ry ⟨i, j, rfl, rfl, q⟩
theorem se_augF {fe : QF} {tpos : Pos} (co : CadOk X.K cad) (fk : FtOk ft cad) (ho : QW cad X W o fo) (he : QE cad X W e fe) : SE cad X W false (.AugAssign (.Attribute o f tpos) .Add e pos) (sAugF ft f fo fe) := by
  refine PS.weak (ps_fldaug ho he inop_add) fun D σ H ⟨g, ρ, M, I, z⟩ => ?_
  unfold sAugF at z
  have k1 := Out.sat_at (then_sat (σ := σ) z)
  refine tW.go I (k1.mono (fun _ y => y) fun x y H' c dd ex rx => y H' _ c dd (Gr.ex ex) (I.ex ex) rx) fun od u H1 k2 e1 ru => ?_
  have I1 := I.ex e1
  split at k2
  · next h i hi =>
    split at k2
    · next b hlk hb =>
      rw [Bool.and_eq_true] at hb
      obtain ⟨a, C, dx, fs, _, m1, m2, ha, rfl, c1, c2, c3, c4, c5, c6⟩ := inst_go co fk I1.wok ru hi hb.1
      obtain ⟨v, l1, l2⟩ := c3.get hlk
      refine ⟨a, C, dx, fs, v, rfl, c2, c4, c5, l1, ?_⟩
      have k2 := Out.sat_at (then_sat (σ := σ) k2)
      refine tQ.go I1 (k2.mono (fun _ y => y) fun x y H' c dd ex rx => y H' _ c dd ((Gr.ex e1).trans (Gr.ex ex)) (I1.ex ex) rx) fun d w H2 k3 e2 rd => ?_
      have I2 := I1.ex e2
      cases d with
      | int j =>
        cases rd
        have l2 : Rep X.K g H1 v (.int b) := l2
        cases l2
        refine ⟨b, j, rfl, rfl, dx, fs, e2 _ _ c2, ?_, ?_⟩
        · have := of_decide_eq_true hb.2
          rw [c3.len]
          omega
        · have ch := chg_dat (f := f) (C := C) (dx := dx) (fs' := putF f (.int (b + j)) fs) I2.kd I2.wok ha m1 m2
          have w' := I2.wok.chg I2.kd ch ha m1 m2 c6 c1 (c3.ex e2 I1.kd) upd_same (v := .int (b + j)) (fl := .dat (.int (b + j))) (show Rep X.K g _ _ _ from .int _)
          exact k3 σ _ g ((Gr.ex (e1.trans e2)).trans ch.gc.gr) (I2.chg ch w')
      | _ => exact False.elim k3
    · exact False.elim k2
  · exact False.elim k2
end
end Rf
/-! # R13: from the text to what it evaluates to: expressions -/
namespace Rf
open PySem PySem.Spec PyProof.Rows L2 Evl

structure Amb (cad : Cad) (c : Tc) (X : Cx) (W : WX) (k : Nat) : Prop where
  hN : X.N = c.N
  hs : X.env.scope = c.sc
  calm : X.calm = true
  nd : X.N.Nodup
  tk : Takes X W
  rm : Room k X.A
  gl : ∀ x v, c.G.lookup x = some v → GVok X.prog X.w X.K X.mg X.base cad k x v
  bl : ∀ x, x ∈ c.B → X.mg x = none
  fn : c.top = true → ∀ x, X.fn x = true
/-! ### tests on the text -/
def gd {α : Type} (b : Bool) (o : Option α) : Option α := match b with
  | true => o
  | false => none
theorem gd_some {α : Type} {b : Bool} {o : Option α} {x : α} : gd b o = some x ↔ b = true ∧ o = some x := by
  cases b
  · exact ⟨fun h => (nomatch h), fun h => (nomatch h.1)⟩
  · exact ⟨fun h => ⟨rfl, h⟩, fun h => h.2⟩
def idx : List Str → Str → Option Nat
  | [], _ => none
  | y :: ys, x => match y == x with
    | true => some 0
    | false => (idx ys x).map (· + 1)
theorem idx_get : ∀ {N : List Str} {x : Str} {i : Nat}, idx N x = some i → N[i]? = some x
  | [], _, _, h => nomatch h
  | y :: ys, x, i, h => by
    rw [idx] at h
    split at h
    · next e =>
      cases h
      rw [List.getElem?_cons_zero, eq_of_beq e]
    · rw [Option.map_eq_some_iff] at h
      obtain ⟨j, h1, rfl⟩ := h
      rw [List.getElem?_cons_succ]
      exact idx_get h1
def visB (sc : Scope) (x : Str) : Bool := match sc.names.lookup x with
  | some .local => true
  | some .cell => true
  | some .free => true
  | _ => false
theorem visB_ok {sc : Scope} {x : Str} (h : visB sc x = true) : Vis sc x := by
  unfold visB at h
  unfold Vis
  split at h
  · next e => exact .inl e
  · next e => exact .inr (.inl e)
  · next e => exact .inr (.inr e)
  · cases h
def dbg (x : Str) : Bool := (x == ("__debug__" : Str)) || (x == ("__classdict__" : Str))
theorem dbg_ok {x : Str} (h : dbg x = false) : (x == ("__debug__" : Str)) = false ∧ (x == ("__classdict__" : Str)) = false := by
  unfold dbg at h
  rw [Bool.or_eq_false_iff] at h
  exact h
def glB (sc : Scope) (x : Str) : Bool := match sc.names.lookup x with
  | some .globalImplicit => true
  | _ => false
def slotOf (c : Tc) (x : Str) : Option Nat := gd (visB c.sc x && !dbg x) (idx c.N x)
def locB (c : Tc) (x : Str) : Bool := match c.sc.names.lookup x with
  | some .local => true
  | some .cell => c.top
  | _ => false
/-- a name that is stored -/
def slotS (c : Tc) (x : Str) : Option Nat := gd (locB c x) (idx c.N x)
section
variable {cad : Cad} {c : Tc} {X : Cx} {W : WX} {k : Nat} {x : Str} {i : Nat}
theorem glB_ok (a : Amb cad c X W k) (h : glB c.sc x = true) : Gl X x := by
  unfold glB at h
  unfold Gl PySem.Env.kindOf
  rw [a.hs]
  split at h
  · assumption
  · cases h
theorem slotOf_ok (a : Amb cad c X W k) (h : slotOf c x = some i) : X.N[i]? = some x ∧ Vis X.env.scope x ∧ (x == ("__debug__" : Str)) = false ∧ (x == ("__classdict__" : Str)) = false := by
  obtain ⟨h1, h2⟩ := gd_some.mp h
  rw [Bool.and_eq_true] at h1
  obtain ⟨d1, d2⟩ := dbg_ok (by simpa using h1.2)
  exact ⟨by rw [a.hN]; exact idx_get h2, by rw [a.hs]; exact visB_ok h1.1, d1, d2⟩
theorem slotS_ok (a : Amb cad c X W k) (h : slotS c x = some i) : X.N[i]? = some x ∧ L2.Loc X.env.scope x ∧ (X.fn x = true ∨ X.env.scope.names.lookup x = some .local) := by
  obtain ⟨h1, h2⟩ := gd_some.mp h
  unfold locB at h1
  refine ⟨by rw [a.hN]; exact idx_get h2, ?_⟩
  rw [a.hs]
  unfold L2.Loc
  split at h1
  · next e => exact ⟨.inl e, .inr e⟩
  · next e => exact ⟨.inr e, .inl (a.fn h1 x)⟩
  · cases h1
/-- a built-in's name that is free -/
def bltB (c : Tc) (x y : Str) : Bool := (x == y) && (glB c.sc x && c.B.contains x)
theorem bltB_ok {y : Str} (a : Amb cad c X W k) (h : bltB c x y = true) : x = y ∧ Gl X x ∧ X.mg x = none := by
  unfold bltB at h
  rw [Bool.and_eq_true, Bool.and_eq_true] at h
  exact ⟨eq_of_beq h.1, glB_ok a h.2.1, a.bl x (by simpa using h.2.2)⟩
end
def setE : Expr → Bool
  | .Set _ _ _ => true
  | _ => false
theorem no_marks {b : Expr} {op : CmpOp} (h : setE b = false) : behindInMarks op b = false := by
  cases b <;> first | rfl | cases h
theorem no_marks2 {b c : Expr} {op op' : CmpOp} (h : setE c = false) : lastMarks [op, op'] [b, c] = false := no_marks h
theorem no_fold {e : Expr} {env : PySem.Env} (h : setE e = false) : ∀ x, foldedSetIterable e env x = pure x := fun x => by
  cases e <;> first | rfl | cases h
def slcE : Expr → Bool
  | .Slice _ _ _ _ => true
  | _ => false
/-! ### operations by their signs -/
def binD : Operator → Option (Dat → Dat → Out Dat)
  | .Add => some addD
  | .Sub => some subD
  | .Mult => some mulD
  | .FloorDiv => some divD
  | .Mod => some modD
  | .Pow => some powD
  | _ => none
def cmpD : CmpOp → Option (Dat → Dat → Out Dat)
  | .Eq => some eqD
  | .NotEq => some neD
  | .Lt => some ltD
  | .LtE => some leD
  | .Gt => some gtD
  | .GtE => some geD
  | .In => some (inD false)
  | .NotIn => some (inD true)
  | _ => none
theorem binD_ok {op : Operator} {o : Dat → Dat → Out Dat} (h : binD op = some o) (X : Cx) (cad : Cad) (W : WX) : ∃ r, OpR X (binaryOp op) r ∧ OpW cad X.K W o r := by
  cases op <;> cases h
  · exact ⟨_, op_addU, ow_add⟩
  · exact ⟨_, op_sub, ow_sub⟩
  · exact ⟨_, op_mul, ow_mul⟩
  · exact ⟨_, op_mod, ow_mod⟩
  · exact ⟨_, op_pow, ow_pow⟩
  · exact ⟨_, op_fdiv, ow_div⟩
theorem cmpD_ok {op : CmpOp} {o : Dat → Dat → Out Dat} (h : cmpD op = some o) {X : Cx} {k : Nat} (hr : Room k X.A) (cad : Cad) (W : WX) : ∃ r, OpR X (compareOp op) r ∧ OpW cad X.K W o r := by
  have h65 : X.A.units + 65 < cLine := by have := hr.un; omega
  cases op <;> cases h
  · exact ⟨_, op_eqU hr.units, ow_eq⟩
  · exact ⟨_, op_neU hr.units, ow_ne⟩
  · exact ⟨_, op_ltU h65, ow_lt⟩
  · exact ⟨_, op_le, ow_le⟩
  · exact ⟨_, op_gt, ow_gt⟩
  · exact ⟨_, op_ge, ow_ge⟩
  · exact ⟨_, op_inU h65, ow_in⟩
  · exact ⟨_, op_notInU h65, ow_in⟩
/-- None, True, False -/
def sclE : Expr → Option Dat
  | .Constant .none _ _ => some .none
  | .Constant (.bool b) _ _ => some (.bool b)
  | _ => none
theorem sclE_ok {e : Expr} {d : Dat} {X : Cx} (h : sclE e = some d) : ∃ v, scD d = some v ∧ (v = .non ∨ ∃ b, v = .bl b) ∧ PE X e (tC v) := by
  unfold sclE at h
  split at h
  · cases h; exact ⟨_, rfl, .inl rfl, pe_non⟩
  · cases h; exact ⟨_, rfl, .inr ⟨_, rfl⟩, pe_bl⟩
  · cases h
def isN : CmpOp → Option Bool
  | .Is => some false
  | .IsNot => some true
  | _ => none
theorem isN_ok {op : CmpOp} {neg : Bool} {v : V} {X : Cx} (h : isN op = some neg) (hv : v = .non ∨ ∃ b, v = .bl b) : OpR X (compareOp op) (rIsC neg v) := by
  cases op <;> cases h
  · exact op_isC hv
  · exact op_isNotC hv
/-! ### built-in functions by their names -/
def b1D (x : Str) : Option (Dat → Out Dat) :=
  if x == "len" then some lenD else if x == "abs" then some absD else if x == "sum" then some sumD else if x == "max" then some maxD else if x == "all" then some allD else if x == "any" then some anyD
  else if x == "tuple" then some tupleD else if x == "list" then some listD else if x == "int" then some intD else if x == "str" then some strD else none
def b2D (x : Str) : Option (Dat → Dat → Out Dat) := if x == "max" then some max2D else if x == "min" then some min2D else none
theorem b1D_ok {x : Str} {o : Dat → Out Dat} {X : Cx} (hc : X.calm = true) (h : b1D x = some o) (cad : Cad) (W : WX) : ∃ (f : Value) (id : String) (r : List V → Hp → VK → Prop), (f = .builtin id ∨ f = .type id) ∧ CallR X f r ∧ Fn1 cad X.K W o r ∧ BV f x := by
  unfold b1D at h
  split at h
  · next e => cases h; cases eq_of_beq e; exact ⟨_, _, _, .inl rfl, cl_len, fn_len, by decide +kernel, by decide, by decide⟩
  split at h
  · next e => cases h; cases eq_of_beq e; exact ⟨_, _, _, .inl rfl, call_abs, fn_abs, by decide +kernel, by decide, by decide⟩
  split at h
  · next e => cases h; cases eq_of_beq e; exact ⟨_, _, _, .inl rfl, cr_sum hc, fn_sum, by decide +kernel, by decide, by decide⟩
  split at h
  · next e => cases h; cases eq_of_beq e; exact ⟨_, _, _, .inl rfl, cr_max hc, fn_max, by decide +kernel, by decide, by decide⟩
  split at h
  · next e => cases h; cases eq_of_beq e; exact ⟨_, _, _, .inl rfl, cr_all hc, fn_all, by decide +kernel, by decide, by decide⟩
  split at h
  · next e => cases h; cases eq_of_beq e; exact ⟨_, _, _, .inl rfl, cr_any hc, fn_any, by decide +kernel, by decide, by decide⟩
  split at h
  · next e => cases h; cases eq_of_beq e; exact ⟨_, _, _, .inr rfl, call_tuple_of, fn_tuple, by decide +kernel, by decide, by decide⟩
  split at h
  · next e => cases h; cases eq_of_beq e; exact ⟨_, _, _, .inr rfl, call_list_of, fn_list, by decide +kernel, by decide, by decide⟩
  split at h
  · next e => cases h; cases eq_of_beq e; exact ⟨_, _, _, .inr rfl, cl_int, fn_int, by decide +kernel, by decide, by decide⟩
  split at h
  · next e => cases h; cases eq_of_beq e; exact ⟨_, _, _, .inr rfl, call_str_int, fn_str, by decide +kernel, by decide, by decide⟩
  · cases h
theorem b2D_ok {x : Str} {o : Dat → Dat → Out Dat} {X : Cx} (hc : X.calm = true) (h : b2D x = some o) (cad : Cad) (W : WX) : ∃ (f : Value) (id : String) (r : List V → Hp → VK → Prop), (f = .builtin id ∨ f = .type id) ∧ CallR X f r ∧ Fn2 cad X.K W o r ∧ BV f x := by
  unfold b2D at h
  split at h
  · next e => cases h; cases eq_of_beq e; exact ⟨_, _, _, .inl rfl, call_max2 hc, fn_max2, by decide +kernel, by decide, by decide⟩
  split at h
  · next e => cases h; cases eq_of_beq e; exact ⟨_, _, _, .inl rfl, call_min2 hc, fn_min2, by decide +kernel, by decide, by decide⟩
  · cases h
def tyN (x : Str) : Option TyN := if x == "int" then some .int else if x == "bool" then some .bool else if x == "str" then some .str else if x == "tuple" then some .tuple else if x == "list" then some .list else none
theorem tyN_ok {x : Str} {t : TyN} (h : tyN x = some t) : BV (.type t.name) x := by
  unfold tyN at h
  split at h
  · next e => cases h; cases eq_of_beq e; exact ⟨by decide +kernel, by decide, by decide⟩
  split at h
  · next e => cases h; cases eq_of_beq e; exact ⟨by decide +kernel, by decide, by decide⟩
  split at h
  · next e => cases h; cases eq_of_beq e; exact ⟨by decide +kernel, by decide, by decide⟩
  split at h
  · next e => cases h; cases eq_of_beq e; exact ⟨by decide +kernel, by decide, by decide⟩
  split at h
  · next e => cases h; cases eq_of_beq e; exact ⟨by decide +kernel, by decide, by decide⟩
  · cases h
end Rf
/-! # R14: .. the readings of expressions -/
namespace Rf
open PySem PySem.Spec PyProof.Rows L2 Evl

structure Tr where
  E : Tc → Expr → Option QF
  W : Tc → Expr → Option QF
  T : Tc → Expr → Option QT
  I : Tc → Bool → Expr → Expr → Option IF
structure Tr.Ok (t : Tr) : Prop where
  oe : ∀ {cad : Cad} {c : Tc} {X : Cx} {W : WX} {k : Nat}, Amb cad c X W k → ∀ {e : Expr} {f : QF}, t.E c e = some f → QE cad X W e f
  ow : ∀ {cad : Cad} {c : Tc} {X : Cx} {W : WX} {k : Nat}, Amb cad c X W k → ∀ {e : Expr} {f : QF}, t.W c e = some f → QW cad X W e f
  ot : ∀ {cad : Cad} {c : Tc} {X : Cx} {W : WX} {k : Nat}, Amb cad c X W k → ∀ {e : Expr} {f : QT}, t.T c e = some f → QTe cad X W e f
  oi : ∀ {cad : Cad} {c : Tc} {X : Cx} {W : WX} {k : Nat}, Amb cad c X W k → ∀ {firm : Bool} {tg e : Expr} {f : IF}, t.I c firm tg e = some f → QI cad X W firm tg e f
/-! ### lists of arguments -/
def trA (t : Tr) (c : Tc) : List Expr → Option QA
  | [] => some qNil
  | a :: es => gd (nst a) ((t.E c a).bind fun fa => (trA t c es).bind fun fr => some (qCons fa fr))
section
variable {cad : Cad} {c : Tc} {X : Cx} {W : WX} {k : Nat} {t : Tr}
theorem trA_ok (o : t.Ok) (a : Amb cad c X W k) : ∀ {es : List Expr} {f : QA}, trA t c es = some f → QAe cad X W es f ∧ es.all nst = true ∧ ∀ M ρ ds, f M ρ = .ok ds → ds.length = es.length
  | [], f, h => by
    cases h
    exact ⟨qa_nil, rfl, fun M ρ ds e => by cases e; rfl⟩
  | e :: es, f, h => by
    rw [trA, gd_some] at h
    obtain ⟨hs, h⟩ := h
    obtain ⟨fa, h1, h⟩ := Option.bind_eq_some_iff.mp h
    obtain ⟨fr, h2, h⟩ := Option.bind_eq_some_iff.mp h
    cases h
    obtain ⟨i1, i2, i3⟩ := trA_ok o a h2
    refine ⟨qa_cons (o.oe a h1) i1 (star1 hs es), by simp [hs, i2], fun M ρ ds e => ?_⟩
    unfold qCons at e
    cases hf : fa M ρ with
    | ok d =>
      rw [hf] at e
      cases hr : fr M ρ with
      | ok dr =>
        rw [hr] at e
        cases e
        simp [i3 M ρ dr hr]
      | exc y => rw [hr] at e; cases e
      | bad => rw [hr] at e; cases e
    | exc y => rw [hf] at e; cases e
    | bad => rw [hf] at e; cases e
end
def trO (t : Tr) (c : Tc) : Option Expr → Option QO
  | none => some qoNone
  | some a => (t.W c a).bind fun fa => some (qoSome fa)
theorem trO_ok {cad : Cad} {c : Tc} {X : Cx} {W : WX} {k : Nat} {t : Tr} (o : t.Ok) (a : Amb cad c X W k) {e : Option Expr} {f : QO} (h : trO t c e = some f) : QOe cad X W e f := by
  cases e with
  | none => cases h; exact qo_none
  | some e =>
    obtain ⟨fa, h1, h⟩ := Option.bind_eq_some_iff.mp h
    cases h
    exact qo_some (o.ow a h1)
/-! ### targets -/
def tgNs (c : Tc) : List Expr → Option (List Nat)
  | [] => some []
  | .Name x _ :: es => (slotS c x).bind fun i => (tgNs c es).bind fun js => some (i :: js)
  | _ :: _ => none
def tgE (c : Tc) : Expr → Option (List Nat × TgF)
  | .Name x _ => (slotS c x).bind fun i => some ([i], tgName i)
  | .Tuple es _ _ => (tgNs c es).bind fun js => some (js, tgTup js)
  | _ => none
theorem tgNs_ok {cad : Cad} {c : Tc} {X : Cx} {W : WX} {k : Nat} (a : Amb cad c X W k) : ∀ {es : List Expr} {js : List Nat}, tgNs c es = some js → nmsOk X es js
  | [], js, h => by cases h; trivial
  | .Name x p :: es, js, h => by
    rw [tgNs] at h
    obtain ⟨i, h1, h⟩ := Option.bind_eq_some_iff.mp h
    obtain ⟨r, h2, h⟩ := Option.bind_eq_some_iff.mp h
    cases h
    obtain ⟨s1, s2, s3⟩ := slotS_ok a h1
    exact ⟨s1, s2, s3, tgNs_ok a h2⟩
theorem tgE_ok {cad : Cad} {c : Tc} {X : Cx} {W : WX} {k : Nat} (a : Amb cad c X W k) {e : Expr} {js : List Nat} {f : TgF} (h : tgE c e = some (js, f)) : QG cad X e js f := by
  unfold tgE at h
  split at h
  · obtain ⟨i, h1, h⟩ := Option.bind_eq_some_iff.mp h
    cases h
    obtain ⟨s1, s2, s3⟩ := slotS_ok a h1
    exact qg_name a.nd s1 s2 s3
  · obtain ⟨js', h1, h⟩ := Option.bind_eq_some_iff.mp h
    cases h
    exact qg_tup a.calm a.nd (tgNs_ok a h1)
  · cases h
/-! ### comprehensions -/
def Tc.inn (c : Tc) (scope : Scope) : Tc := { c with sc := relS scope c.sc, top := false }
theorem Amb.inn {cad : Cad} {c : Tc} {X : Cx} {W : WX} {k : Nat} (a : Amb cad c X W k) (scope : Scope) (s : Shared) (H : Hp) (C : Addr) (cl : List (Str × Addr)) (fp : List Addr) : Amb cad (c.inn scope) (X.blk s H scope (compEnvC scope cl C X.env) fp) WF k where
  hN := a.hN
  hs := by
    show relS scope X.env.scope = relS scope c.sc
    rw [a.hs]
  calm := a.calm
  nd := a.nd
  tk := takesF
  rm := a.rm
  gl := a.gl
  bl := a.bl
  fn := fun z => nomatch z
/-- the own names of a block, by its targets -/
def ownN : List Expr → List Nat → List (Str × Nat)
  | .Name x _ :: es, j :: js => (x, j) :: ownN es js
  | _, _ => []
def ownE : Expr → List Nat → List (Str × Nat)
  | .Name x _, [j] => [(x, j)]
  | .Tuple es _ _, js => ownN es js
  | _, _ => []
def subN (js vs : List Nat) : Bool := js.all fun j => vs.contains j
theorem subN_ok {js vs : List Nat} (h : subN js vs = true) : ∀ j ∈ js, j ∈ vs := fun j hj => by
  have := List.all_eq_true.mp h j hj
  simpa using this
def trIf (t : Tr) (c : Tc) : List Expr → Option QT
  | [] => some qtYes
  | [a] => t.T c a
  | _ => none
theorem PTs.weak {X : Cx} {e : List Expr} {t t' : TT} (h : PTs X e t) (k : ∀ σ H Q, t' σ H Q → t σ H Q) : PTs X e t' := ⟨fun pins s σ H Q I q => h.run pins s σ H Q I (k σ H Q q)⟩
theorem trIf_ok {cad : Cad} {c : Tc} {X : Cx} {W : WX} {k : Nat} {t : Tr} (o : t.Ok) (a : Amb cad c X W k) {ifs : List Expr} {f : QT} (h : trIf t c ifs = some f) : PTs X ifs (tQT X.K cad W f) := by
  unfold trIf at h
  split at h
  · cases h
    exact PTs.weak pts_nil fun σ H Q ⟨g, ρ, M, I, z⟩ => z H (Ex.refl H)
  · exact pts_one (o.ot a h)
  · cases h
def trLc (t : Tr) (c : Tc) (elt tg iter : Expr) (ifs : List Expr) (scope : Scope) : Option QF :=
  (t.I c false tg iter).bind fun it => (tgE (c.inn scope) tg).bind fun jt => (trIf t (c.inn scope) ifs).bind fun tt => (t.E (c.inn scope) elt).bind fun te =>
    gd (blkC c.N c.sc scope (ownE tg jt.1) && (subN jt.1 ((ownE tg jt.1).map (·.2)) && !setE iter)) (some (qComp it jt.2 ((ownE tg jt.1).map (·.2)) tt te))
theorem trLc_ok {cad : Cad} {c : Tc} {X : Cx} {W : WX} {k : Nat} {t : Tr} (o : t.Ok) (a : Amb cad c X W k) {elt tg iter : Expr} {ifs : List Expr} {scope : Scope} {pos : Pos} {f : QF} (h : trLc t c elt tg iter ifs scope = some f) : QE cad X W (.ListComp elt [⟨tg, iter, ifs, 0⟩] scope pos) f := by
  unfold trLc at h
  obtain ⟨it, h1, h⟩ := Option.bind_eq_some_iff.mp h
  obtain ⟨⟨js, tf⟩, h2, h⟩ := Option.bind_eq_some_iff.mp h
  obtain ⟨tt, h3, h⟩ := Option.bind_eq_some_iff.mp h
  obtain ⟨te, h4, h⟩ := Option.bind_eq_some_iff.mp h
  obtain ⟨hb, h⟩ := gd_some.mp h
  cases h
  simp only [Bool.and_eq_true, Bool.not_eq_true'] at hb
  obtain ⟨b1, b2, b3⟩ := hb
  exact qe_lc a.calm a.nd (o.oi a h1) (by rw [a.hN, a.hs]; exact b1) (subN_ok b2) (fun s H C cl fp => tgE_ok (a.inn scope s H C cl fp) h2) (fun s H C cl fp => trIf_ok o (a.inn scope s H C cl fp) h3) (fun s H C cl fp => o.oe (a.inn scope s H C cl fp) h4) (no_fold b3)
/-! ### calls of defs and built-in functions -/
def trCall (t : Tr) (c : Tc) (x : Str) (e : Expr) (es : List Expr) : Option QF := match c.G.lookup x with
  | some (.fq n m) => (trA t c (e :: es)).bind fun as => gd (glB c.sc x && (!dbg x && decide ((e :: es).length = n))) (some (qCall m as))
  | some _ => none
  | none => match es with
    | [] => (b1D x).bind fun o => (t.W c e).bind fun fa => gd (bltB c x x && nst e) (some (qUn o fa))
    | [.Name y p] => match x == "isinstance" with
      | true => (tyN y).bind fun ty => (t.W c e).bind fun fa => gd (bltB c x x && (bltB c y y && nst e)) (some (qIsi ty fa))
      | false => (b2D x).bind fun o => (t.W c e).bind fun fa => (t.W c (.Name y p)).bind fun fb => gd (bltB c x x && nst e) (some (qOp o fa fb))
    | [e2] => (b2D x).bind fun o => (t.W c e).bind fun fa => (t.W c e2).bind fun fb => gd (bltB c x x && (nst e && nst e2)) (some (qOp o fa fb))
    | _ => none
theorem qe_b2' {cad : Cad} {c : Tc} {X : Cx} {W : WX} {k : Nat} {x : Str} {o : Dat → Dat → Out Dat} {a b : Expr} {fa fb : QF} {p pos : Pos} (am : Amb cad c X W k) (h : b2D x = some o) (hg : bltB c x x = true) (ha : QW cad X W a fa) (hb : QW cad X W b fb) (hs : nst a = true) (hs2 : nst b = true) : QE cad X W (.Call (.Name x p) [a, b] [] pos) (qOp o fa fb) := by
  obtain ⟨f, id, r, hf, hc, ho, hv⟩ := b2D_ok am.calm h cad W
  obtain ⟨_, hg, hm⟩ := bltB_ok am hg
  exact qe_b2 hf hc ho hg hm hv ha hb hs hs2
theorem trCall_ok {cad : Cad} {c : Tc} {X : Cx} {W : WX} {k : Nat} {t : Tr} (o : t.Ok) (a : Amb cad c X W k) {x : Str} {e : Expr} {es : List Expr} {p pos : Pos} {f : QF} (h : trCall t c x e es = some f) : QE cad X W (.Call (.Name x p) (e :: es) [] pos) f := by
  unfold trCall at h
  split at h
  · next n m hl =>
    obtain ⟨as, h1, h⟩ := Option.bind_eq_some_iff.mp h
    obtain ⟨hb, h⟩ := gd_some.mp h
    cases h
    simp only [Bool.and_eq_true, Bool.not_eq_true', decide_eq_true_eq] at hb
    obtain ⟨b1, b2, b3⟩ := hb
    obtain ⟨fa, hm, hk, fd, ps, j, hj, hp, hB, F⟩ := a.gl x _ hl
    obtain ⟨i1, i2, i3⟩ := trA_ok o a h1
    exact qe_call a.tk F (a.rm.mono hj) (glB_ok a b1) hm hk hB i1 (b3.trans hp.symm) (dbg_ok b2).1 i2 i3
  · cases h
  · split at h
    · obtain ⟨o1, h1, h⟩ := Option.bind_eq_some_iff.mp h
      obtain ⟨fa, h2, h⟩ := Option.bind_eq_some_iff.mp h
      obtain ⟨hb, h⟩ := gd_some.mp h
      cases h
      rw [Bool.and_eq_true] at hb
      obtain ⟨f, id, r, hf, hc, ho, hv⟩ := b1D_ok a.calm h1 cad W
      obtain ⟨_, hg, hm⟩ := bltB_ok a hb.1
      exact qe_b1 hf hc ho hg hm hv (o.ow a h2) hb.2
    · split at h
      · next ex =>
        obtain ⟨ty, h1, h⟩ := Option.bind_eq_some_iff.mp h
        obtain ⟨fa, h2, h⟩ := Option.bind_eq_some_iff.mp h
        obtain ⟨hb, h⟩ := gd_some.mp h
        cases h
        simp only [Bool.and_eq_true] at hb
        obtain ⟨b1, b2, b3⟩ := hb
        obtain ⟨_, hg, hm⟩ := bltB_ok a b1
        obtain ⟨_, hg2, hm2⟩ := bltB_ok a b2
        cases eq_of_beq ex
        exact qe_isi hg hm ⟨by decide +kernel, by decide, by decide⟩ hg2 hm2 (tyN_ok h1) (o.ow a h2) b3
      · obtain ⟨o1, h1, h⟩ := Option.bind_eq_some_iff.mp h
        obtain ⟨fa, h2, h⟩ := Option.bind_eq_some_iff.mp h
        obtain ⟨fb, h3, h⟩ := Option.bind_eq_some_iff.mp h
        obtain ⟨hb, h⟩ := gd_some.mp h
        cases h
        rw [Bool.and_eq_true] at hb
        exact qe_b2' a h1 hb.1 (o.ow a h2) (o.ow a h3) hb.2 rfl
    · obtain ⟨o1, h1, h⟩ := Option.bind_eq_some_iff.mp h
      obtain ⟨fa, h2, h⟩ := Option.bind_eq_some_iff.mp h
      obtain ⟨fb, h3, h⟩ := Option.bind_eq_some_iff.mp h
      obtain ⟨hb, h⟩ := gd_some.mp h
      cases h
      simp only [Bool.and_eq_true] at hb
      exact qe_b2' a h1 hb.1 (o.ow a h2) (o.ow a h3) hb.2.1 hb.2.2
    · cases h
/-! ### all forms -/
def stE (t : Tr) (c : Tc) : Expr → Option QF
  | .Name x _ => (match slotOf c x with
    | some i => some (qVar i)
    | none => match c.G.lookup x with
      | some (.con d) => gd (glB c.sc x && !dbg x) (some (qC d))
      | _ => none)
  | .Constant (.int i) _ _ => some (qC (.int i))
  | .Constant (.str x) _ _ => some (qC (.str x))
  | .Constant (.bool x) _ _ => some (qC (.bool x))
  | .Constant .none _ _ => some (qC .none)
  | .BinOp a op b _ => (binD op).bind fun o => (t.W c a).bind fun fa => (t.W c b).bind fun fb => some (qOp o fa fb)
  | .UnaryOp .USub a _ => (t.W c a).bind fun fa => some (qUn negD fa)
  | .UnaryOp .Not a _ => (t.W c a).bind fun fa => some (qNotV fa)
  | .BoolOp _ [a] _ => t.E c a
  | .BoolOp .And (a :: b :: r) p => (t.E c a).bind fun fa => (t.E c (.BoolOp .And (b :: r) p)).bind fun fb => some (qAndV fa fb)
  | .BoolOp .Or (a :: b :: r) p => (t.E c a).bind fun fa => (t.E c (.BoolOp .Or (b :: r) p)).bind fun fb => some (qOrV fa fb)
  | .Compare a [op] [b] _ => (match isN op with
    | some neg => (sclE b).bind fun d => (t.W c a).bind fun fa => some (qIs neg d fa)
    | none => (cmpD op).bind fun o => (t.W c a).bind fun fa => (t.W c b).bind fun fb => gd (!setE b) (some (qOp o fa fb)))
  | .Compare a [op, op'] [b, b2] _ => (cmpD op).bind fun o => (cmpD op').bind fun o' => (t.W c a).bind fun fa => (t.W c b).bind fun fb => (t.W c b2).bind fun fc => gd (!setE b2) (some (qOf (qChain o o' fa fb fc)))
  | .IfExp d a b _ => (t.T c d).bind fun ta => (t.E c a).bind fun fa => (t.E c b).bind fun fb => some (qIf ta fa fb)
  | .Tuple es _ _ => (trA t c es).bind fun fr => some (qTup fr)
  | .List es _ => (trA t c es).bind fun fr => some (qLst fr)
  | .Subscript a b _ => (match b with
    | .Slice lo hi none _ => (t.W c a).bind fun fa => (trO t c lo).bind fun fl => (trO t c hi).bind fun fh => some (qSl fa fl fh)
    | b => gd (!slcE b) ((t.W c a).bind fun fa => (t.W c b).bind fun fb => some (qOp ixD fa fb)))
  | .ListComp elt [⟨tg, iter, ifs, 0⟩] scope _ => trLc t c elt tg iter ifs scope
  | .Call (.Name x _) (e :: es) [] _ => trCall t c x e es
  | _ => none
def stW (t : Tr) (c : Tc) : Expr → Option QF
  | .Name x p => (match slotOf c x with
    | some i => some (qwVar i)
    | none => t.E c (.Name x p))
  | e => t.E c e
/-- an expression whose truth is asked of its value -/
def valT : Expr → Bool
  | .UnaryOp .Not _ _ => false
  | .BoolOp _ _ _ => false
  | .IfExp _ _ _ _ => false
  | .Compare _ _ _ _ => false
  | _ => true
theorem valT_ok {e : Expr} {env : PySem.Env} (h : valT e = true) : ∀ whole, isTrue e env whole = (do let v ← whole; standAt e.pos; holding [v] (truthy v)) := fun whole => by
  cases e with
  | UnaryOp o a p => cases o <;> first | (with_unfolding_all rfl) | cases h
  | BoolOp _ _ _ => cases h
  | IfExp _ _ _ _ => cases h
  | Compare _ _ _ _ => cases h
  | _ => with_unfolding_all rfl
def stT (t : Tr) (c : Tc) : Expr → Option QT
  | .UnaryOp .Not a _ => (t.T c a).bind fun ta => some (qtNot ta)
  | .BoolOp _ [a] _ => t.T c a
  | .BoolOp .And (a :: b :: r) p => (t.T c a).bind fun ta => (t.T c (.BoolOp .And (b :: r) p)).bind fun tb => some (qtAnd ta tb)
  | .BoolOp .Or (a :: b :: r) p => (t.T c a).bind fun ta => (t.T c (.BoolOp .Or (b :: r) p)).bind fun tb => some (qtOr ta tb)
  | .Compare a [op] [b] _ => (match isN op with
    | some neg => (sclE b).bind fun d => (t.W c a).bind fun fa => some (qBl (qIs neg d fa))
    | none => (cmpD op).bind fun o => (t.W c a).bind fun fa => (t.W c b).bind fun fb => gd (!setE b) (some (qBl (qOp o fa fb))))
  | .Compare a [op, op'] [b, b2] _ => (cmpD op).bind fun o => (cmpD op').bind fun o' => (t.W c a).bind fun fa => (t.W c b).bind fun fb => (t.W c b2).bind fun fc => gd (!setE b2) (some (qChain o o' fa fb fc))
  | e => gd (valT e) ((t.W c e).bind fun fa => some (qTru fa))
def trF (t : Tr) (c : Tc) (firm : Bool) (e : Expr) : Option QF := match firm with
  | true => t.E c e
  | false => t.W c e
def isTup : Expr → Bool
  | .Tuple _ _ _ => true
  | _ => false
def stI (t : Tr) (c : Tc) (firm : Bool) (tg : Expr) : Expr → Option IF
  | .Call (.Name x p) [a] [] pos => (match bltB c x "range" with
    | true => (t.W c a).bind fun fa => gd (nst a) (some (qRange1 fa))
    | false => match bltB c x "enumerate" with
      | true => (trF t c firm a).bind fun fa => gd (nst a && isTup tg) (some (qEnum 0 fa))
      | false => (trF t c firm (.Call (.Name x p) [a] [] pos)).bind fun fa => some (qItems fa))
  | .Call (.Name x p) [a, b] [] pos => (match bltB c x "range" with
    | true => (t.W c a).bind fun fa => (t.W c b).bind fun fb => gd (nst a && nst b) (some (qRange2 fa fb))
    | false => match bltB c x "zip" with
      | true => (trF t c firm a).bind fun fa => (trF t c firm b).bind fun fb => gd (nst a && (nst b && isTup tg)) (some (qZip fa fb))
      | false => (trF t c firm (.Call (.Name x p) [a, b] [] pos)).bind fun fa => some (qItems fa))
  | .Call (.Name x p) [a] [⟨some kw, .Constant (.int i) j kp, kp2⟩] pos => gd (bltB c x "enumerate" && (kw == "start" && (decide (-(2 ^ 63) ≤ i ∧ i < 2 ^ 63) && (nst a && isTup tg)))) ((trF t c firm a).bind fun fa => some (qEnum i fa))
  | e => (trF t c firm e).bind fun fa => some (qItems fa)
end Rf
/-! # R15: .. they are right -/
namespace Rf
open PySem PySem.Spec PyProof.Rows L2 Evl

theorem plain_ix {b : Expr} (h : (!slcE b) = true) : PlainIx b := fun v i => by
  cases b <;> first | rfl | cases h
section
variable {cad : Cad} {c : Tc} {X : Cx} {W : WX} {k : Nat} {t : Tr}
theorem stE_ok (o : t.Ok) (a : Amb cad c X W k) {e : Expr} {f : QF} (h : stE t c e = some f) : QE cad X W e f := by
  unfold stE at h
  split at h
  · split at h
    · next i hi =>
      cases h
      obtain ⟨s1, s2, s3, s4⟩ := slotOf_ok a hi
      exact qe_var s1 s2 s3 s4
    · split at h
      · next d hl =>
        obtain ⟨hb, h⟩ := gd_some.mp h
        cases h
        simp only [Bool.and_eq_true, Bool.not_eq_true'] at hb
        obtain ⟨v, u, h1, h2, h3⟩ := a.gl _ _ hl
        exact PE.weak (pe_glob (glB_ok a hb.1) h1 h2 (dbg_ok hb.2).1) fun σ H Q ⟨g, ρ, M, I, z⟩ => z v H (Ex.refl H) (h3 g H)
      · cases h
  · cases h; exact qe_int
  · cases h; exact qe_str
  · cases h; exact qe_bl
  · cases h; exact qe_non
  · obtain ⟨op, h1, h⟩ := Option.bind_eq_some_iff.mp h
    obtain ⟨fa, h2, h⟩ := Option.bind_eq_some_iff.mp h
    obtain ⟨fb, h3, h⟩ := Option.bind_eq_some_iff.mp h
    cases h
    obtain ⟨r, r1, r2⟩ := binD_ok h1 X cad W
    exact qe_opw r1 r2 (o.ow a h2) (o.ow a h3)
  · obtain ⟨fa, h2, h⟩ := Option.bind_eq_some_iff.mp h
    cases h
    exact qe_neg (o.ow a h2)
  · obtain ⟨fa, h2, h⟩ := Option.bind_eq_some_iff.mp h
    cases h
    exact qe_notV (o.ow a h2)
  · exact pe_one (o.oe a h)
  · obtain ⟨fa, h2, h⟩ := Option.bind_eq_some_iff.mp h
    obtain ⟨fb, h3, h⟩ := Option.bind_eq_some_iff.mp h
    cases h
    exact qe_andV (o.oe a h2) (o.oe a h3)
  · obtain ⟨fa, h2, h⟩ := Option.bind_eq_some_iff.mp h
    obtain ⟨fb, h3, h⟩ := Option.bind_eq_some_iff.mp h
    cases h
    exact qe_orV (o.oe a h2) (o.oe a h3)
  · split at h
    · next neg hn =>
      obtain ⟨d, h1, h⟩ := Option.bind_eq_some_iff.mp h
      obtain ⟨fa, h2, h⟩ := Option.bind_eq_some_iff.mp h
      cases h
      obtain ⟨v, v1, v2, v3⟩ := sclE_ok (X := X) h1
      refine qe_is v1 (isN_ok hn v2) (o.ow a h2) v3 (no_marks ?_)
      unfold sclE at h1
      split at h1 <;> first | rfl | cases h1
    · obtain ⟨op, h1, h⟩ := Option.bind_eq_some_iff.mp h
      obtain ⟨fa, h2, h⟩ := Option.bind_eq_some_iff.mp h
      obtain ⟨fb, h3, h⟩ := Option.bind_eq_some_iff.mp h
      obtain ⟨hb, h⟩ := gd_some.mp h
      cases h
      obtain ⟨r, r1, r2⟩ := cmpD_ok h1 a.rm cad W
      exact qe_cmpw r1 r2 (o.ow a h2) (o.ow a h3) (no_marks (by simpa using hb))
  · obtain ⟨op, h1, h⟩ := Option.bind_eq_some_iff.mp h
    obtain ⟨op', h1', h⟩ := Option.bind_eq_some_iff.mp h
    obtain ⟨fa, h2, h⟩ := Option.bind_eq_some_iff.mp h
    obtain ⟨fb, h3, h⟩ := Option.bind_eq_some_iff.mp h
    obtain ⟨fc, h4, h⟩ := Option.bind_eq_some_iff.mp h
    obtain ⟨hb, h⟩ := gd_some.mp h
    cases h
    obtain ⟨r, r1, r2⟩ := cmpD_ok h1 a.rm cad W
    obtain ⟨r', r1', r2'⟩ := cmpD_ok h1' a.rm cad W
    exact qe_chain r1 r1' r2 r2' (o.ow a h2) (o.ow a h3) (o.ow a h4) (no_marks2 (by simpa using hb))
  · obtain ⟨ta, h1, h⟩ := Option.bind_eq_some_iff.mp h
    obtain ⟨fa, h2, h⟩ := Option.bind_eq_some_iff.mp h
    obtain ⟨fb, h3, h⟩ := Option.bind_eq_some_iff.mp h
    cases h
    exact qe_ifExp (o.ot a h1) (o.oe a h2) (o.oe a h3)
  · obtain ⟨fr, h1, h⟩ := Option.bind_eq_some_iff.mp h
    cases h
    exact qe_tup (trA_ok o a h1).1
  · obtain ⟨fr, h1, h⟩ := Option.bind_eq_some_iff.mp h
    cases h
    exact qe_lst (trA_ok o a h1).1
  · split at h
    · obtain ⟨fa, h1, h⟩ := Option.bind_eq_some_iff.mp h
      obtain ⟨fl, h2, h⟩ := Option.bind_eq_some_iff.mp h
      obtain ⟨fh, h3, h⟩ := Option.bind_eq_some_iff.mp h
      cases h
      exact qe_sl (o.ow a h1) (trO_ok o a h2) (trO_ok o a h3)
    · obtain ⟨hb, h⟩ := gd_some.mp h
      obtain ⟨fa, h1, h⟩ := Option.bind_eq_some_iff.mp h
      obtain ⟨fb, h2, h⟩ := Option.bind_eq_some_iff.mp h
      cases h
      exact qe_ix (o.ow a h1) (o.ow a h2) (plain_ix hb)
  · exact trLc_ok o a h
  · exact trCall_ok o a h
  · cases h
theorem stW_ok (o : t.Ok) (a : Amb cad c X W k) {e : Expr} {f : QF} (h : stW t c e = some f) : QW cad X W e f := by
  unfold stW at h
  split at h
  · split at h
    · next i hi =>
      cases h
      obtain ⟨s1, s2, s3, s4⟩ := slotOf_ok a hi
      exact qw_var s1 s2 s3 s4
    · exact (o.oe a h).w
  · exact (o.oe a h).w
theorem qt_and {a b : Expr} {rest : List Expr} {ta tb : QT} {pos : Pos} (ha : QTe cad X W a ta) (hb : QTe cad X W (.BoolOp .And (b :: rest) pos) tb) : QTe cad X W (.BoolOp .And (a :: b :: rest) pos) (qtAnd ta tb) := by
  have hb' : QWt cad X W (.BoolOp .And (b :: rest) pos) tb := ⟨fun wh pins s σ H Q I q => hb.run pins s σ H Q I q⟩
  exact PW.pt (qw_and ha hb')
theorem qt_or {a b : Expr} {rest : List Expr} {ta tb : QT} {pos : Pos} (ha : QTe cad X W a ta) (hb : QTe cad X W (.BoolOp .Or (b :: rest) pos) tb) : QTe cad X W (.BoolOp .Or (a :: b :: rest) pos) (qtOr ta tb) := by
  have hb' : QWt cad X W (.BoolOp .Or (b :: rest) pos) tb := ⟨fun wh pins s σ H Q I q => hb.run pins s σ H Q I q⟩
  exact PW.pt (qw_or ha hb')
theorem stT_ok (o : t.Ok) (a : Amb cad c X W k) {e : Expr} {f : QT} (h : stT t c e = some f) : QTe cad X W e f := by
  unfold stT at h
  split at h
  · obtain ⟨ta, h1, h⟩ := Option.bind_eq_some_iff.mp h
    cases h
    exact qt_not (o.ot a h1)
  · next op _ _ =>
    cases op
    · exact PW.pt (pw_and1 (o.ot a h))
    · exact PW.pt (pw_or1 (o.ot a h))
  · obtain ⟨ta, h1, h⟩ := Option.bind_eq_some_iff.mp h
    obtain ⟨tb, h2, h⟩ := Option.bind_eq_some_iff.mp h
    cases h
    exact qt_and (o.ot a h1) (o.ot a h2)
  · obtain ⟨ta, h1, h⟩ := Option.bind_eq_some_iff.mp h
    obtain ⟨tb, h2, h⟩ := Option.bind_eq_some_iff.mp h
    cases h
    exact qt_or (o.ot a h1) (o.ot a h2)
  · split at h
    · next neg hn =>
      obtain ⟨d, h1, h⟩ := Option.bind_eq_some_iff.mp h
      obtain ⟨fa, h2, h⟩ := Option.bind_eq_some_iff.mp h
      cases h
      obtain ⟨v, v1, v2, v3⟩ := sclE_ok (X := X) h1
      refine qt_is v1 (isN_ok hn v2) (o.ow a h2) v3 (no_marks ?_)
      unfold sclE at h1
      split at h1 <;> first | rfl | cases h1
    · obtain ⟨op, h1, h⟩ := Option.bind_eq_some_iff.mp h
      obtain ⟨fa, h2, h⟩ := Option.bind_eq_some_iff.mp h
      obtain ⟨fb, h3, h⟩ := Option.bind_eq_some_iff.mp h
      obtain ⟨hb, h⟩ := gd_some.mp h
      cases h
      obtain ⟨r, r1, r2⟩ := cmpD_ok h1 a.rm cad W
      exact qt_cmp r1 r2 (o.ow a h2) (o.ow a h3) (no_marks (by simpa using hb))
  · obtain ⟨op, h1, h⟩ := Option.bind_eq_some_iff.mp h
    obtain ⟨op', h1', h⟩ := Option.bind_eq_some_iff.mp h
    obtain ⟨fa, h2, h⟩ := Option.bind_eq_some_iff.mp h
    obtain ⟨fb, h3, h⟩ := Option.bind_eq_some_iff.mp h
    obtain ⟨fc, h4, h⟩ := Option.bind_eq_some_iff.mp h
    obtain ⟨hb, h⟩ := gd_some.mp h
    cases h
    obtain ⟨r, r1, r2⟩ := cmpD_ok h1 a.rm cad W
    obtain ⟨r', r1', r2'⟩ := cmpD_ok h1' a.rm cad W
    exact qt_chain r1 r1' r2 r2' (o.ow a h2) (o.ow a h3) (o.ow a h4) (no_marks2 (by simpa using hb))
  · obtain ⟨hv, h⟩ := gd_some.mp h
    obtain ⟨fa, h1, h⟩ := Option.bind_eq_some_iff.mp h
    cases h
    exact qt_tru (o.ow a h1) (valT_ok hv)
theorem trF_ok (o : t.Ok) (a : Amb cad c X W k) {firm : Bool} {e : Expr} {f : QF} (h : trF t c firm e = some f) : QF' cad X W firm e f := by
  cases firm
  · exact o.ow a h
  · exact o.oe a h
theorem isTup_ok {e : Expr} (h : isTup e = true) : ∃ es j p, e = .Tuple es j p := by
  cases e <;> first | exact ⟨_, _, _, rfl⟩ | cases h
theorem stI_ok (o : t.Ok) (a : Amb cad c X W k) {firm : Bool} {tg e : Expr} {f : IF} (h : stI t c firm tg e = some f) : QI cad X W firm tg e f := by
  unfold stI at h
  split at h
  · split at h
    · next hb =>
      obtain ⟨fa, h1, h⟩ := Option.bind_eq_some_iff.mp h
      obtain ⟨hs, h⟩ := gd_some.mp h
      cases h
      obtain ⟨rfl, hg, hm⟩ := bltB_ok a hb
      exact qi_range1 hg hm (o.ow a h1) hs
    · split at h
      · next hb =>
        obtain ⟨fa, h1, h⟩ := Option.bind_eq_some_iff.mp h
        obtain ⟨hs, h⟩ := gd_some.mp h
        cases h
        obtain ⟨rfl, hg, hm⟩ := bltB_ok a hb
        rw [Bool.and_eq_true] at hs
        obtain ⟨es, j, p, rfl⟩ := isTup_ok hs.2
        exact qi_enum hg hm (trF_ok o a h1) hs.1
      · obtain ⟨fa, h1, h⟩ := Option.bind_eq_some_iff.mp h
        cases h
        exact qi_seq (trF_ok o a h1)
  · split at h
    · next hb =>
      obtain ⟨fa, h1, h⟩ := Option.bind_eq_some_iff.mp h
      obtain ⟨fb, h2, h⟩ := Option.bind_eq_some_iff.mp h
      obtain ⟨hs, h⟩ := gd_some.mp h
      cases h
      obtain ⟨rfl, hg, hm⟩ := bltB_ok a hb
      rw [Bool.and_eq_true] at hs
      exact qi_range2 hg hm (o.ow a h1) (o.ow a h2) hs.1 hs.2
    · split at h
      · next hb =>
        obtain ⟨fa, h1, h⟩ := Option.bind_eq_some_iff.mp h
        obtain ⟨fb, h2, h⟩ := Option.bind_eq_some_iff.mp h
        obtain ⟨hs, h⟩ := gd_some.mp h
        cases h
        obtain ⟨rfl, hg, hm⟩ := bltB_ok a hb
        simp only [Bool.and_eq_true] at hs
        obtain ⟨es, j, p, rfl⟩ := isTup_ok hs.2.2
        exact qi_zip hg hm (trF_ok o a h1) (trF_ok o a h2) hs.1 hs.2.1
      · obtain ⟨fa, h1, h⟩ := Option.bind_eq_some_iff.mp h
        cases h
        exact qi_seq (trF_ok o a h1)
  · obtain ⟨hs, h⟩ := gd_some.mp h
    obtain ⟨fa, h1, h⟩ := Option.bind_eq_some_iff.mp h
    cases h
    simp only [Bool.and_eq_true, decide_eq_true_eq] at hs
    obtain ⟨hb, hk, hi, hn, ht⟩ := hs
    obtain ⟨rfl, hg, hm⟩ := bltB_ok a hb
    cases eq_of_beq hk
    obtain ⟨es, j, p, rfl⟩ := isTup_ok ht
    exact qi_enum1 hi.1 hi.2 hg hm (trF_ok o a h1) hn
  · obtain ⟨fa, h1, h⟩ := Option.bind_eq_some_iff.mp h
    cases h
    exact qi_seq (trF_ok o a h1)
end
end Rf
/-! # R16: .. statements -/
namespace Rf
open PySem PySem.Spec PyProof.Rows L2 Evl

structure AmbS (cad : Cad) (c : Tc) (X : Cx) (W : WX) (k : Nat) : Prop extends Amb cad c X W k where
  ps : PassesOwn (model X.prog X.w) X.A X.env X.xe
  st : X.stack = X.env :: X.outer
  fr : X.env.frame = some X.env.locals
  kf : X.env.scope.kind = .function
structure Ts where
  G : Tc → Expr → Option GF
  H : Tc → Expr → Option GT
  S : Tc → Stmt → Option SF
  B : Tc → List Stmt → Option SF
structure Ts.Ok (s : Ts) (q : Bool) : Prop where
  og : ∀ {cad : Cad} {c : Tc} {X : Cx} {W : WX} {k : Nat}, AmbS cad c X W k → ∀ {e : Expr} {f : GF}, s.G c e = some f → GE cad X W q e f
  oh : ∀ {cad : Cad} {c : Tc} {X : Cx} {W : WX} {k : Nat}, AmbS cad c X W k → ∀ {e : Expr} {f : GT}, s.H c e = some f → GTe cad X W q e f
  os : ∀ {cad : Cad} {c : Tc} {X : Cx} {W : WX} {k : Nat}, AmbS cad c X W k → ∀ {e : Stmt} {f : SF}, s.S c e = some f → SE cad X W q e f
  ob : ∀ {cad : Cad} {c : Tc} {X : Cx} {W : WX} {k : Nat}, AmbS cad c X W k → ∀ {e : List Stmt} {f : SF}, s.B c e = some f → SEs cad X W q e f
def cmpE : Expr → Bool
  | .ListComp _ _ _ _ => true
  | .SetComp _ _ _ _ => true
  | .DictComp _ _ _ _ _ => true
  | _ => false
theorem no_swap {e : Expr} {tg : Option Expr} {l : Nat} {env : PySem.Env} (h : cmpE e = false) : swapsWith e tg l env = pure false := by
  cases e <;> first | rfl | cases h
def tupE : Expr → Bool
  | .Tuple _ _ _ => true
  | _ => false
/-- whether a comprehension is stored at once, by the text -/
def swB (sc : Scope) (v : Expr) (scope : Scope) (x : Str) (p : Pos) : Bool := (match sc.names.lookup x with
  | some .local => true
  | _ => false) && (p.line == v.pos.line && !(scope.names.any fun (n, k) => n == x && (k == .local || k == .cell)))
theorem swB_ok {X : Cx} {elt : Expr} {gens : List Comprehension} {scope : Scope} {pos p : Pos} {x : Str} {l : Nat} (hk : X.env.scope.kind = .function) (h : swB X.env.scope (.ListComp elt gens scope pos) scope x p = true) : X.env.scope.names.lookup x = some .local ∧ swapsWith (.ListComp elt gens scope pos) (some (.Name x p)) l X.env = pure true := by
  unfold swB at h
  simp only [Bool.and_eq_true] at h
  obtain ⟨h1, h2, h3⟩ := h
  have e1 : X.env.scope.names.lookup x = some .local := by
    split at h1
    · assumption
    · cases h1
  refine ⟨e1, ?_⟩
  have eb : X.env.blockKind = .function := by
    unfold PySem.Env.blockKind
    rw [hk]
    rfl
  unfold swapsWith
  show (pure (X.env.blockKind == .function && X.env.kindOf x == some .local && p.line == (Expr.ListComp elt gens scope pos).pos.line && !(scope.names.any fun (n, k) => n == x && (k == .local || k == .cell))) : Sem Bool) = pure true
  rw [eb, h2, h3]
  unfold PySem.Env.kindOf
  rw [e1]
  rfl
theorem swB_no {X : Cx} {elt : Expr} {gens : List Comprehension} {scope : Scope} {pos p : Pos} {x : Str} {l : Nat} (h : (p.line == (Expr.ListComp elt gens scope pos).pos.line) = false) : swapsWith (.ListComp elt gens scope pos) (some (.Name x p)) l X.env = pure false := by
  unfold swapsWith
  show (pure (X.env.blockKind == .function && X.env.kindOf x == some .local && p.line == (Expr.ListComp elt gens scope pos).pos.line && !(scope.names.any fun (n, k) => n == x && (k == .local || k == .cell))) : Sem Bool) = pure false
  rw [h, Bool.and_false, Bool.false_and]
/-- lists that are new -/
def trN (t : Tr) (c : Tc) : Expr → Option IF
  | .List es _ => (trA t c es).bind fun fr => some (asL fr)
  | .Call (.Name x _) [a] [] _ => (t.W c a).bind fun fa => gd (bltB c x "list" && nst a) (some (asListOf fa))
  | _ => none
theorem trN_ok {cad : Cad} {c : Tc} {X : Cx} {W : WX} {k : Nat} {t : Tr} (o : t.Ok) (a : Amb cad c X W k) {e : Expr} {f : IF} (h : trN t c e = some f) : FE cad X W e f ∧ cmpE e = false := by
  unfold trN at h
  split at h
  · obtain ⟨fr, h1, h⟩ := Option.bind_eq_some_iff.mp h
    cases h
    exact ⟨fe_lst (trA_ok o a h1).1, rfl⟩
  · obtain ⟨fa, h1, h⟩ := Option.bind_eq_some_iff.mp h
    obtain ⟨hb, h⟩ := gd_some.mp h
    cases h
    rw [Bool.and_eq_true] at hb
    obtain ⟨rfl, hg, hm⟩ := bltB_ok a hb.1
    exact ⟨fe_list hg hm ⟨by decide +kernel, by decide, by decide⟩ (o.ow a h1) hb.2, rfl⟩
  · cases h
/-- the slots of local names that are stored from the right -/
def pnJs (c : Tc) : List Str → Option (List Nat)
  | [] => some []
  | x :: xs => (match c.sc.names.lookup x with
    | some .local => (idx c.N x).bind fun i => (pnJs c xs).bind fun js => some (i :: js)
    | _ => none)
theorem pnJs_ok {cad : Cad} {c : Tc} {X : Cx} {W : WX} {k : Nat} (a : Amb cad c X W k) : ∀ {xs : List Str} {js : List Nat}, pnJs c xs = some js → xs.length = js.length ∧ ∀ (n : Nat) (x : Str) (j : Nat), xs[n]? = some x → js[n]? = some j → X.N[j]? = some x ∧ X.env.scope.names.lookup x = some .local
  | [], js, h => by
    cases h
    exact ⟨rfl, fun n x j e => by simp at e⟩
  | x :: xs, js, h => by
    rw [pnJs] at h
    split at h
    · next e =>
      obtain ⟨i, h1, h⟩ := Option.bind_eq_some_iff.mp h
      obtain ⟨r, h2, h⟩ := Option.bind_eq_some_iff.mp h
      cases h
      obtain ⟨i1, i2⟩ := pnJs_ok a h2
      refine ⟨by simp [i1], fun n y j e1 e2 => ?_⟩
      cases n with
      | zero =>
        simp at e1 e2
        subst e1 e2
        exact ⟨by rw [a.hN]; exact idx_get h1, by rw [a.hs]; exact e⟩
      | succ n => exact i2 n y j (by simpa using e1) (by simpa using e2)
    · cases h
def nmE : Expr → Option (Str × Nat)
  | .Name x p => some (x, p.line)
  | _ => none
def nmsE : List Expr → Option (List (Str × Nat))
  | [] => some []
  | e :: es => (nmE e).bind fun x => (nmsE es).bind fun r => some (x :: r)
/-- a, b = x, y with the stores swapped, by the text -/
def pnB (c : Tc) (ts vs : List Expr) : Option (List Nat) :=
  (nmsE ts).bind fun nls => gd ((ts.length == 2 || ts.length == 3) && (vs.length == ts.length && (vs.all nst && (nls.all (fun p => p.2 == ((ts.head?.map (·.pos.line)).getD 0)) && ((nls.map (·.1)).eraseDups.length == nls.length && (!(vs.all (foldedForSure 8)) && !(vs.all (constantsAlone 8)))))))) (pnJs c (nls.map (·.1)))
theorem nmsE_len : ∀ {ts : List Expr} {nls : List (Str × Nat)}, nmsE ts = some nls → nls.length = ts.length
  | [], _, h => by cases h; rfl
  | e :: es, _, h => by
    rw [nmsE] at h
    obtain ⟨x, h1, h⟩ := Option.bind_eq_some_iff.mp h
    obtain ⟨r, h2, h⟩ := Option.bind_eq_some_iff.mp h
    cases h
    simp [nmsE_len h2]
theorem nms_filter {sc : Scope} {l : Nat} : ∀ {ts : List Expr} {nls : List (Str × Nat)}, nmsE ts = some nls → nls.all (fun p => p.2 == l) = true → (∀ x ∈ nls.map (·.1), sc.names.lookup x = some .local) →
    (ts.filterMap fun e => match e with
    | .Name id pos => if sc.names.lookup id == some .local && pos.line == l then some id else none
    | _ => none) = nls.map (·.1)
  | [], _, h, _, _ => by cases h; rfl
  | e :: es, _, h, hl, hk => by
    rw [nmsE] at h
    obtain ⟨x, h1, h⟩ := Option.bind_eq_some_iff.mp h
    obtain ⟨r, h2, h⟩ := Option.bind_eq_some_iff.mp h
    cases h
    rw [List.all_cons, Bool.and_eq_true] at hl
    have ih := nms_filter (sc := sc) h2 hl.2 fun y hy => hk y (List.mem_cons_of_mem _ hy)
    cases e with
    | Name y p =>
      cases h1
      have e1 := hk y List.mem_cons_self
      have e2 : (if sc.names.lookup y == some .local && p.line == l then some y else none) = some y := by
        rw [e1, show (p.line == l) = true from hl.1]
        rfl
      simp only [List.filterMap_cons, e2, ih, List.map_cons]
    | _ => cases h1
theorem nodup_eraseDups_len : ∀ (n : Nat) (l : List Str), l.length = n → l.eraseDups.length = l.length → l.Nodup := by
  intro n
  induction n using Nat.strongRecOn with
  | _ n ih =>
    intro l hn h
    cases l with
    | nil => exact List.nodup_nil
    | cons a r =>
      rw [List.eraseDups_cons] at h
      simp only [List.length_cons] at h hn
      have h1 : (r.filter fun b => !b == a).length ≤ r.length := List.length_filter_le _ _
      have h2 : ∀ l : List Str, l.eraseDups.length ≤ l.length := by
        intro l
        induction hm : l.length using Nat.strongRecOn generalizing l with
        | _ m ihm =>
          cases l with
          | nil => simp
          | cons x xs =>
            rw [List.eraseDups_cons]
            simp only [List.length_cons] at hm ⊢
            have z : (xs.filter fun b => !b == x).length ≤ xs.length := List.length_filter_le _ _
            have := ihm _ (by omega) (xs.filter fun b => !b == x) rfl
            omega
      have h3 := h2 (r.filter fun b => !b == a)
      have e1 : (r.filter fun b => !b == a).length = r.length := by omega
      have e2 : (r.filter fun b => !b == a) = r := List.filter_eq_self.mpr (List.length_filter_eq_length_iff.mp e1)
      rw [e2] at h
      rw [List.nodup_cons]
      refine ⟨fun z => ?_, ih r.length (by omega) r rfl (by omega)⟩
      have := List.filter_eq_self.mp e2 a z
      simp at this
theorem pnJs_nd {cad : Cad} {c : Tc} {X : Cx} {W : WX} {k : Nat} (a : Amb cad c X W k) : ∀ {xs : List Str} {js : List Nat}, pnJs c xs = some js → xs.Nodup → js.Nodup ∧ ∀ j ∈ js, ∃ x ∈ xs, X.N[j]? = some x
  | [], js, h, _ => by
    cases h
    exact ⟨List.nodup_nil, fun j hj => by simp at hj⟩
  | x :: xs, js, h, nd => by
    rw [pnJs] at h
    rw [List.nodup_cons] at nd
    split at h
    · next e =>
      obtain ⟨i, h1, h⟩ := Option.bind_eq_some_iff.mp h
      obtain ⟨r, h2, h⟩ := Option.bind_eq_some_iff.mp h
      cases h
      obtain ⟨i1, i2⟩ := pnJs_nd a h2 nd.2
      have hi : X.N[i]? = some x := by rw [a.hN]; exact idx_get h1
      refine ⟨List.nodup_cons.mpr ⟨fun z => ?_, i1⟩, fun j hj => ?_⟩
      · obtain ⟨y, hy, e2⟩ := i2 i z
        rw [hi] at e2
        cases e2
        exact nd.1 hy
      · rcases List.mem_cons.mp hj with rfl | hj
        · exact ⟨x, List.mem_cons_self, hi⟩
        · obtain ⟨y, hy, e2⟩ := i2 j hj
          exact ⟨y, List.mem_cons_of_mem _ hy, e2⟩
    · cases h
theorem nst_any {vs : List Expr} (h : vs.all nst = true) : (vs.any fun e => match e with
    | .Starred _ _ => true
    | _ => false) = false := by
  induction vs with
  | nil => rfl
  | cons v vs ih =>
    rw [List.all_cons, Bool.and_eq_true] at h
    rw [List.any_cons, ih h.2, Bool.or_false]
    cases v <;> first | rfl | cases h.1
theorem pnB_ok {cad : Cad} {c : Tc} {X : Cx} {W : WX} {k : Nat} (a : AmbS cad c X W k) {ts vs : List Expr} {js : List Nat} {kt k2 : Nat} {pt p2 : Pos} (h : pnB c ts vs = some js) :
    ∃ xs : List Str, xs.length = js.length ∧ js.length ≤ 3 ∧ js.Nodup ∧ (∀ (n : Nat) (x : Str) (j : Nat), xs[n]? = some x → js[n]? = some j → X.N[j]? = some x ∧ X.env.scope.names.lookup x = some .local) ∧ swappedStores [.Tuple ts kt pt] (.Tuple vs k2 p2) X.env = pure (some xs) := by
  unfold pnB at h
  obtain ⟨nls, h1, h⟩ := Option.bind_eq_some_iff.mp h
  obtain ⟨hb, h⟩ := gd_some.mp h
  simp only [Bool.and_eq_true, Bool.not_eq_true'] at hb
  obtain ⟨b1, b2, b3, b4, b5, b6, b7⟩ := hb
  have l1 := nmsE_len h1
  obtain ⟨i1, i2⟩ := pnJs_ok a.toAmb h
  have nd := nodup_eraseDups_len _ _ rfl (by rw [List.length_map]; exact eq_of_beq b5)
  obtain ⟨d1, d2⟩ := pnJs_nd a.toAmb h nd
  have hloc : ∀ x ∈ nls.map (·.1), X.env.scope.names.lookup x = some .local := fun x hx => by
    obtain ⟨n, hn, e⟩ := List.mem_iff_getElem.mp hx
    have hj : n < js.length := by rw [← i1]; exact hn
    exact (i2 n x js[n] (by rw [List.getElem?_eq_getElem hn, e]) (List.getElem?_eq_getElem hj)).2
  have hf := nms_filter (sc := X.env.scope) h1 b4 hloc
  have h3 : ts.length = 2 ∨ ts.length = 3 := by
    rw [Bool.or_eq_true] at b1
    exact b1.imp eq_of_beq eq_of_beq
  refine ⟨nls.map (·.1), i1, ?_, d1, i2, ?_⟩
  · rw [← i1, List.length_map, l1]
    omega
  · have eb : X.env.blockKind = .function := by
      unfold PySem.Env.blockKind
      rw [a.kf]
      rfl
    unfold swappedStores
    have e1 : (!(ts.length == 2 || ts.length == 3) || vs.length != ts.length || X.env.blockKind != .function) = false := by
      rw [b1, eb, eq_of_beq b2]
      simp
    have e2 := nst_any b3
    have e3 : (nls.map (·.1)).length = ts.length := by rw [List.length_map, l1]
    have e4 : ((nls.map (·.1)).length != ts.length || (nls.map (·.1)).eraseDups.length != (nls.map (·.1)).length) = false := by
      rw [e3, eq_of_beq b5, l1]
      simp
    simp only [e1, Bool.false_eq_true, if_false]
    generalize hA : List.filterMap (β := Str) _ ts = A
    have eA : A = nls.map (·.1) := hA.symm.trans hf
    subst eA
    split
    · next z => exact absurd (z.symm.trans e2) (by decide)
    · rw [e4, b6, b7]
      rfl
end Rf
/-! # R17: .. the readings of statements -/
namespace Rf
open PySem PySem.Spec PyProof.Rows L2 Evl

section
variable {X : Cx} {cad : Cad} {W : WX} {q : Bool} {e : Expr} {pos : Pos}
theorem se_lcM {j : Nat} {y : Str} {py : Pos} {elt tg iter : Expr} {cpos : Pos} {scope : Scope} {own : List (Str × Nat)} {it : IF} {tgf : TgF} {js : List Nat} {tt : QT} {te : QF} {ifs : List Expr} (hc : X.calm = true) (hN : X.N.Nodup) (hy : X.N[j]? = some y) (hyl : X.env.scope.names.lookup y = some .local)
    (hsw : swapsWith (.ListComp elt [⟨tg, iter, ifs, 0⟩] scope cpos) (some (.Name y py)) pos.line X.env = pure true) (hi : QI cad X W false tg iter it) (ok : blkC X.N X.env.scope scope own = true) (hj : ∀ j ∈ js, j ∈ own.map (·.2))
    (hg : ∀ (s : Shared) (H : Hp) (C : Addr) (cl : List (Str × Addr)) (fp : List Addr), QG cad (X.blk s H scope (compEnvC scope cl C X.env) fp) tg js tgf)
    (ht : ∀ (s : Shared) (H : Hp) (C : Addr) (cl : List (Str × Addr)) (fp : List Addr), PTs (X.blk s H scope (compEnvC scope cl C X.env) fp) ifs (tQT X.K cad WF tt))
    (he : ∀ (s : Shared) (H : Hp) (C : Addr) (cl : List (Str × Addr)) (fp : List Addr), QE cad (X.blk s H scope (compEnvC scope cl C X.env) fp) WF elt te) (hs : ∀ x, foldedSetIterable iter X.env x = pure x) :
    SE cad X W q (.Assign [.Name y py] (.ListComp elt [⟨tg, iter, ifs, 0⟩] scope cpos) pos) (sMut j (qCompL it tgf (own.map (·.2)) tt te)) := by
  refine PS.weak (ps_setLc (g := tGD X.K cad js tgf) (tt := tQT X.K cad WF tt) (te := tQ X.K cad WF te) hc hN hy hyl hsw hi (blkOk_by ok) (fun s H C cl fp => hg s H C cl fp) ht (fun s H C cl fp => he s H C cl fp) hs) fun D σ H h => ?_
  exact lc_go0 hj σ H _ (mut_go D σ H h)
end
/-! ### comprehensions that are stored -/
def trLcL (t : Tr) (c : Tc) (elt tg iter : Expr) (ifs : List Expr) (scope : Scope) : Option IF :=
  (t.I c false tg iter).bind fun it => (tgE (c.inn scope) tg).bind fun jt => (trIf t (c.inn scope) ifs).bind fun tt => (t.E (c.inn scope) elt).bind fun te =>
    gd (blkC c.N c.sc scope (ownE tg jt.1) && (subN jt.1 ((ownE tg jt.1).map (·.2)) && !setE iter)) (some (qCompL it jt.2 ((ownE tg jt.1).map (·.2)) tt te))
def trSetLc (t : Tr) (c : Tc) (x : Str) (p : Pos) (elt tg iter : Expr) (ifs : List Expr) (scope : Scope) (cpos : Pos) : Option SF :=
  (slotS c x).bind fun j => gd (swB c.sc (.ListComp elt [⟨tg, iter, ifs, 0⟩] scope cpos) scope x p || !(p.line == (Expr.ListComp elt [⟨tg, iter, ifs, 0⟩] scope cpos).pos.line))
    (match c.ml.contains x with
    | true => (trLcL t c elt tg iter ifs scope).bind fun f => some (sMut j f)
    | false => (trLc t c elt tg iter ifs scope).bind fun f => some (sSet (tgName j) (gOf f)))
section
variable {cad : Cad} {c : Tc} {X : Cx} {W : WX} {k : Nat} {t : Tr} {q : Bool}
theorem trSetLc_ok (o : t.Ok) (a : AmbS cad c X W k) {x : Str} {p cpos pos : Pos} {elt tg iter : Expr} {ifs : List Expr} {scope : Scope} {f : SF} (h : trSetLc t c x p elt tg iter ifs scope cpos = some f) : SE cad X W q (.Assign [.Name x p] (.ListComp elt [⟨tg, iter, ifs, 0⟩] scope cpos) pos) f := by
  unfold trSetLc at h
  obtain ⟨j, hj, h⟩ := Option.bind_eq_some_iff.mp h
  obtain ⟨hsw, h⟩ := gd_some.mp h
  obtain ⟨s1, s2, s3⟩ := slotS_ok a.toAmb hj
  rw [Bool.or_eq_true] at hsw
  split at h
  · obtain ⟨f1, h1, h⟩ := Option.bind_eq_some_iff.mp h
    cases h
    unfold trLcL at h1
    obtain ⟨it, h2, h1⟩ := Option.bind_eq_some_iff.mp h1
    obtain ⟨⟨js, tf⟩, h3, h1⟩ := Option.bind_eq_some_iff.mp h1
    obtain ⟨tt, h4, h1⟩ := Option.bind_eq_some_iff.mp h1
    obtain ⟨te, h5, h1⟩ := Option.bind_eq_some_iff.mp h1
    obtain ⟨hb, h1⟩ := gd_some.mp h1
    cases h1
    simp only [Bool.and_eq_true, Bool.not_eq_true'] at hb
    obtain ⟨b1, b2, b3⟩ := hb
    rcases hsw with hsw | hsw
    · rw [← a.hs] at hsw
      obtain ⟨l1, l2⟩ := swB_ok (l := pos.line) a.kf hsw
      exact se_lcM a.calm a.nd s1 l1 l2 (o.oi a.toAmb h2) (by rw [a.hN, a.hs]; exact b1) (subN_ok b2) (fun s H C cl fp => tgE_ok (a.toAmb.inn scope s H C cl fp) h3) (fun s H C cl fp => trIf_ok o (a.toAmb.inn scope s H C cl fp) h4) (fun s H C cl fp => o.oe (a.toAmb.inn scope s H C cl fp) h5) (no_fold b3)
    · exact se_mut a.nd s1 s2 s3 (fe_lc a.calm a.nd (o.oi a.toAmb h2) (by rw [a.hN, a.hs]; exact b1) (subN_ok b2) (fun s H C cl fp => tgE_ok (a.toAmb.inn scope s H C cl fp) h3) (fun s H C cl fp => trIf_ok o (a.toAmb.inn scope s H C cl fp) h4) (fun s H C cl fp => o.oe (a.toAmb.inn scope s H C cl fp) h5) (no_fold b3)) (swB_no (by simpa using hsw))
  · obtain ⟨f1, h1, h⟩ := Option.bind_eq_some_iff.mp h
    cases h
    rcases hsw with hsw | hsw
    · rw [← a.hs] at hsw
      obtain ⟨l1, l2⟩ := swB_ok (l := pos.line) a.kf hsw
      unfold trLc at h1
      obtain ⟨it, h2, h1⟩ := Option.bind_eq_some_iff.mp h1
      obtain ⟨⟨js, tf⟩, h3, h1⟩ := Option.bind_eq_some_iff.mp h1
      obtain ⟨tt, h4, h1⟩ := Option.bind_eq_some_iff.mp h1
      obtain ⟨te, h5, h1⟩ := Option.bind_eq_some_iff.mp h1
      obtain ⟨hb, h1⟩ := gd_some.mp h1
      cases h1
      simp only [Bool.and_eq_true, Bool.not_eq_true'] at hb
      obtain ⟨b1, b2, b3⟩ := hb
      exact se_lcS a.calm a.nd s1 l1 l2 (o.oi a.toAmb h2) (by rw [a.hN, a.hs]; exact b1) (subN_ok b2) (fun s H C cl fp => tgE_ok (a.toAmb.inn scope s H C cl fp) h3) (fun s H C cl fp => trIf_ok o (a.toAmb.inn scope s H C cl fp) h4) (fun s H C cl fp => o.oe (a.toAmb.inn scope s H C cl fp) h5) (no_fold b3)
    · exact se_asg (ge_of (trLc_ok o a.toAmb h1)) (qg_name a.nd s1 s2 s3) (swB_no (l := pos.line) (by simpa using hsw)) (by with_unfolding_all rfl) (by with_unfolding_all rfl)
end
theorem no_sole {tg e : Expr} {l : Nat} {env : PySem.Env} (h : cmpE e = false) : swapsWithSole [tg] e l env = pure false := no_swap h
theorem sub_asg {x : Str} {p spos : Pos} {i : Expr} {env : PySem.Env} (h : slcE i = false) : ∀ v, assign (.Subscript (.Name x p) i spos) env v = (do
      let ov ← holding [v] (eval (.Name x p) env)
      let iv ← holding [v, ov] (eval i env)
      standAt spos
      holding [v, ov, iv] (setItem ov iv v)
      release [v, ov, iv] []) := fun v => by
  cases i <;> first | (with_unfolding_all rfl) | cases h
/-! ### stores -/
def trAsg (t : Tr) (s : Ts) (c : Tc) : Expr → Expr → Option SF
  | .Name x p, .ListComp elt [⟨tg, iter, ifs, 0⟩] scope cpos => trSetLc t c x p elt tg iter ifs scope cpos
  | .Name x _, e => (slotS c x).bind fun j => match c.ml.contains x with
    | true => (trN t c e).bind fun f => some (sMut j f)
    | false => gd (!cmpE e) ((s.G c e).bind fun f => some (sSet (tgName j) f))
  | .Tuple [.Name x _, .Starred (.Name y _) _] _ _, e => (slotS c x).bind fun i => (slotS c y).bind fun j => gd (!cmpE e && !tupE e) ((s.G c e).bind fun f => some (sStar i j f))
  | .Tuple ts _ _, .Tuple vs _ _ => (pnB c ts vs).bind fun js => (trA t c vs).bind fun f => some (sPN js f)
  | .Tuple ts _ _, e => (tgNs c ts).bind fun js => gd (!cmpE e && !tupE e) ((s.G c e).bind fun f => some (sSet (tgTup js) f))
  | .Subscript (.Name x _) i _, e => (slotOf c x).bind fun j => gd (c.ml.contains x && (!cmpE e && !slcE i)) ((t.E c e).bind fun f => (t.E c i).bind fun fi => some (sSetI j fi f))
  | _, _ => none
theorem no_swapped {tg e : Expr} {env : PySem.Env} (h : tupE e = false) : swappedStores [tg] e env = pure none := by
  cases tg <;> first | rfl | (cases e <;> first | rfl | cases h)
section
variable {cad : Cad} {c : Tc} {X : Cx} {W : WX} {k : Nat} {t : Tr} {s : Ts} {q : Bool}
theorem trAsg_ok (o : t.Ok) (os : s.Ok q) (a : AmbS cad c X W k) {tg e : Expr} {pos : Pos} {f : SF} (h : trAsg t s c tg e = some f) : SE cad X W q (.Assign [tg] e pos) f := by
  unfold trAsg at h
  split at h
  · exact trSetLc_ok o a h
  · obtain ⟨j, hj, h⟩ := Option.bind_eq_some_iff.mp h
    obtain ⟨s1, s2, s3⟩ := slotS_ok a.toAmb hj
    split at h
    · obtain ⟨f1, h1, h⟩ := Option.bind_eq_some_iff.mp h
      cases h
      obtain ⟨i1, i2⟩ := trN_ok o a.toAmb h1
      exact se_mut a.nd s1 s2 s3 i1 (no_swap i2)
    · obtain ⟨hc, h⟩ := gd_some.mp h
      obtain ⟨f1, h1, h⟩ := Option.bind_eq_some_iff.mp h
      cases h
      exact se_asg (os.og a h1) (qg_name a.nd s1 s2 s3) (no_sole (by simpa using hc)) (by with_unfolding_all rfl) (by with_unfolding_all rfl)
  · obtain ⟨i, hi, h⟩ := Option.bind_eq_some_iff.mp h
    obtain ⟨j, hj, h⟩ := Option.bind_eq_some_iff.mp h
    obtain ⟨hc, h⟩ := gd_some.mp h
    obtain ⟨f1, h1, h⟩ := Option.bind_eq_some_iff.mp h
    cases h
    simp only [Bool.and_eq_true, Bool.not_eq_true'] at hc
    exact se_star a.calm a.nd (slotS_ok a.toAmb hi) (slotS_ok a.toAmb hj) (os.og a h1) (no_sole hc.1) (no_swapped hc.2)
  · obtain ⟨js, hj, h⟩ := Option.bind_eq_some_iff.mp h
    obtain ⟨f1, h1, h⟩ := Option.bind_eq_some_iff.mp h
    cases h
    obtain ⟨xs, p1, p2, p3, p4, p5⟩ := pnB_ok a hj
    exact se_pn a.calm a.nd p3 p1 p2 p4 (trA_ok o a.toAmb h1).1 p5 (no_sole rfl)
  · obtain ⟨js, hj, h⟩ := Option.bind_eq_some_iff.mp h
    obtain ⟨hc, h⟩ := gd_some.mp h
    obtain ⟨f1, h1, h⟩ := Option.bind_eq_some_iff.mp h
    cases h
    simp only [Bool.and_eq_true, Bool.not_eq_true'] at hc
    exact se_asg (os.og a h1) (qg_tup a.calm a.nd (tgNs_ok a.toAmb hj)) (no_sole hc.1) (no_swapped hc.2) (by with_unfolding_all rfl)
  · obtain ⟨j, hj, h⟩ := Option.bind_eq_some_iff.mp h
    obtain ⟨hc, h⟩ := gd_some.mp h
    obtain ⟨f1, h1, h⟩ := Option.bind_eq_some_iff.mp h
    obtain ⟨fi, h2, h⟩ := Option.bind_eq_some_iff.mp h
    cases h
    simp only [Bool.and_eq_true, Bool.not_eq_true'] at hc
    obtain ⟨s1, s2, s3, s4⟩ := slotOf_ok a.toAmb hj
    exact se_setI s1 s2 s3 s4 (o.oe a.toAmb h1) (o.oe a.toAmb h2) (sub_asg hc.2.2) (no_sole hc.2.1) (by with_unfolding_all rfl)
  · cases h
end
/-! ### all forms -/
def trBlk (s : Ts) (c : Tc) : List Stmt → Option SF
  | [] => some sSkip
  | [a] => s.S c a
  | a :: b :: r => (s.S c a).bind fun f => (s.B c (b :: r)).bind fun g => some (sSeq f g)
def stS (t : Tr) (s : Ts) (c : Tc) : Stmt → Option SF
  | .Assign [tg] e _ => trAsg t s c tg e
  | .Assign [.Name x _, .Name y _] e _ => (slotS c x).bind fun i => (slotS c y).bind fun j => gd (!tupE e) ((s.G c e).bind fun f => some (sSet2 i j f))
  | .AugAssign (.Name x _) .Add e _ => (slotS c x).bind fun j => (t.E c e).bind fun f => some (sAug j f)
  | .Expr (.Call (.Attribute (.Name x _) m apos) [e] [] pos) _ => (slotOf c x).bind fun j => gd (m == "append" && (c.ml.contains x && (nst e && (apos.endLine == pos.line)))) ((t.E c e).bind fun f => some (sApp j f))
  | .Expr (.Call (.Attribute (.Name x _) m apos) [] [] pos) _ => (slotOf c x).bind fun j => gd (m == "clear" && (c.ml.contains x && (apos.endLine == pos.line))) (some (sClear j))
  | .Return (some e) _ => (match t.E c e with
    | some f => some (sRet f)
    | none => (s.G c e).bind fun f => some (sRetG f))
  | .If d s1 s2 _ => (s.B c s1).bind fun f => (s.B c s2).bind fun g => match t.T c d with
    | some td => some (sIf td f g)
    | none => (s.H c d).bind fun td => some (sIfG td f g)
  | .For tg iter body [] _ => (t.I c true tg iter).bind fun it => (tgE c tg).bind fun jt => (s.B c body).bind fun f => gd (!setE iter) (some (sFor it jt.2 f))
  | _ => none
section
variable {cad : Cad} {c : Tc} {X : Cx} {W : WX} {k : Nat} {t : Tr} {s : Ts} {q : Bool}
theorem trBlk_ok (os : s.Ok q) (a : AmbS cad c X W k) {b : List Stmt} {f : SF} (h : trBlk s c b = some f) : SEs cad X W q b f := by
  unfold trBlk at h
  split at h
  · cases h; exact se_nil
  · exact se_one (os.os a h)
  · obtain ⟨f1, h1, h⟩ := Option.bind_eq_some_iff.mp h
    obtain ⟨f2, h2, h⟩ := Option.bind_eq_some_iff.mp h
    cases h
    exact se_cons (os.os a h1) (os.ob a h2)
theorem stS_ok (o : t.Ok) (os : s.Ok q) (a : AmbS cad c X W k) {st : Stmt} {f : SF} (h : stS t s c st = some f) : SE cad X W q st f := by
  unfold stS at h
  split at h
  · exact trAsg_ok o os a h
  · obtain ⟨i, hi, h⟩ := Option.bind_eq_some_iff.mp h
    obtain ⟨j, hj, h⟩ := Option.bind_eq_some_iff.mp h
    obtain ⟨hc, h⟩ := gd_some.mp h
    obtain ⟨f1, h1, h⟩ := Option.bind_eq_some_iff.mp h
    cases h
    exact se_asg2 a.nd (slotS_ok a.toAmb hi) (slotS_ok a.toAmb hj) (os.og a h1) (by with_unfolding_all rfl)
  · obtain ⟨j, hj, h⟩ := Option.bind_eq_some_iff.mp h
    obtain ⟨f1, h1, h⟩ := Option.bind_eq_some_iff.mp h
    cases h
    obtain ⟨s1, s2, s3⟩ := slotS_ok a.toAmb hj
    exact se_aug a.nd s1 s2 s3 (o.oe a.toAmb h1)
  · obtain ⟨j, hj, h⟩ := Option.bind_eq_some_iff.mp h
    obtain ⟨hc, h⟩ := gd_some.mp h
    obtain ⟨f1, h1, h⟩ := Option.bind_eq_some_iff.mp h
    cases h
    simp only [Bool.and_eq_true] at hc
    cases eq_of_beq hc.1
    obtain ⟨s1, s2, s3, s4⟩ := slotOf_ok a.toAmb hj
    exact se_app s1 s2 s3 s4 (o.oe a.toAmb h1) hc.2.2.1 hc.2.2.2
  · obtain ⟨j, hj, h⟩ := Option.bind_eq_some_iff.mp h
    obtain ⟨hc, h⟩ := gd_some.mp h
    cases h
    simp only [Bool.and_eq_true] at hc
    cases eq_of_beq hc.1
    obtain ⟨s1, s2, s3, s4⟩ := slotOf_ok a.toAmb hj
    exact se_clear s1 s2 s3 s4 hc.2.2
  · split at h
    · next f1 h1 =>
      cases h
      exact se_ret (o.oe a.toAmb h1)
    · obtain ⟨f1, h1, h⟩ := Option.bind_eq_some_iff.mp h
      cases h
      exact se_retG (os.og a h1)
  · obtain ⟨f1, h1, h⟩ := Option.bind_eq_some_iff.mp h
    obtain ⟨f2, h2, h⟩ := Option.bind_eq_some_iff.mp h
    split at h
    · next td h3 =>
      cases h
      exact se_if (o.ot a.toAmb h3) (os.ob a h1) (os.ob a h2)
    · obtain ⟨td, h3, h⟩ := Option.bind_eq_some_iff.mp h
      cases h
      exact se_ifG (os.oh a h3) (os.ob a h1) (os.ob a h2)
  · obtain ⟨it, h1, h⟩ := Option.bind_eq_some_iff.mp h
    obtain ⟨⟨js, tf⟩, h2, h⟩ := Option.bind_eq_some_iff.mp h
    obtain ⟨f1, h3, h⟩ := Option.bind_eq_some_iff.mp h
    obtain ⟨hc, h⟩ := gd_some.mp h
    cases h
    exact se_for a.ps a.calm (o.oi a.toAmb h1) (tgE_ok a.toAmb h2) (os.ob a h3) (no_fold (by simpa using hc))
  · cases h
end
end Rf
/-! # R30: .. whole defs -/
namespace Rf
open PySem PySem.Spec PyProof.Rows L2 Evl

def tr0 : Tr := ⟨fun _ _ => none, fun _ _ => none, fun _ _ => none, fun _ _ _ _ => none⟩
def trStep (t : Tr) : Tr := ⟨stE t, stW t, stT t, stI t⟩
def tr : Nat → Tr
  | 0 => tr0
  | n + 1 => trStep (tr n)
theorem tr_ok : ∀ n, (tr n).Ok
  | 0 => ⟨fun _ => (by intro _ _ h; cases h), fun _ => (by intro _ _ h; cases h), fun _ => (by intro _ _ h; cases h), fun _ => (by intros; rename_i h; cases h)⟩
  | n + 1 => ⟨fun a => (by intro _ _ h; exact stE_ok (tr_ok n) a h), fun a => (by intro _ _ h; exact stW_ok (tr_ok n) a h), fun a => (by intro _ _ h; exact stT_ok (tr_ok n) a h), fun a => (by intro _ _ _ _ h; exact stI_ok (tr_ok n) a h)⟩
def ts0 : Ts := ⟨fun _ _ => none, fun _ _ => none, fun _ _ => none, fun _ _ => none⟩
def tsStep (t : Tr) (s : Ts) : Ts := ⟨fun c e => (t.E c e).bind fun f => some (gOf f), fun c e => (t.T c e).bind fun f => some (gtOf f), stS t s, trBlk s⟩
def ts (t : Tr) : Nat → Ts
  | 0 => ts0
  | n + 1 => tsStep t (ts t n)
theorem ts_ok {t : Tr} (o : t.Ok) (q : Bool) : ∀ n, (ts t n).Ok q
  | 0 => ⟨fun _ => (by intro _ _ h; cases h), fun _ => (by intro _ _ h; cases h), fun _ => (by intro _ _ h; cases h), fun _ => (by intros; rename_i h; cases h)⟩
  | n + 1 => ⟨fun a => by
      intro _ _ h
      obtain ⟨f, h1, h⟩ := Option.bind_eq_some_iff.mp h
      cases h
      exact ge_of (o.oe a.toAmb h1), fun a => by
      intro _ _ h
      obtain ⟨f, h1, h⟩ := Option.bind_eq_some_iff.mp h
      cases h
      exact gt_of (o.ot a.toAmb h1), fun a => by
      intro _ _ h
      exact stS_ok o (ts_ok o q n) a h, fun a => by
      intro _ _ h
      exact trBlk_ok (ts_ok o q n) a h⟩
/-- the whole of a def's body -/
def rd (c : Tc) (b : List Stmt) : Option SF := (ts (tr 40) 60).B c b
def GsOk (P : Program) (w : World) (K : PySem.W.Frag) (mg : Str → Option Value) (base : Heap) (cad : Cad) (k : Nat) : List (Str × GV) → Prop
  | [] => True
  | (x, v) :: r => GVok P w K mg base cad k x v ∧ GsOk P w K mg base cad k r
def BsOk (mg : Str → Option Value) : List Str → Prop
  | [] => True
  | x :: r => mg x = none ∧ BsOk mg r
section
variable {P : Program} {w : World} {K : PySem.W.Frag} {mg : Str → Option Value} {base : Heap} {cad : Cad} {k : Nat}
theorem GsOk.get : ∀ {G : List (Str × GV)}, GsOk P w K mg base cad k G → ∀ x v, G.lookup x = some v → GVok P w K mg base cad k x v
  | [], _, x, v, h => nomatch h
  | (y, u) :: r, g, x, v, h => by
    rw [List.lookup_cons] at h
    split at h
    · next e =>
      cases h
      rw [eq_of_beq e]
      exact g.1
    · exact g.2.get x v h
theorem BsOk.get : ∀ {B : List Str}, BsOk mg B → ∀ x, x ∈ B → mg x = none
  | [], _, x, h => nomatch h
  | y :: r, g, x, h => by
    rcases List.mem_cons.mp h with rfl | h
    · exact g.1
    · exact g.2.get x h
theorem amb_of {qual : Str} {st : Stmt} {f : Addr} {N ps ml B : List Str} {G : List (Str × GV)} {Ms : List (Str × List (Str × MV))} (S : FnScope N ps (defScope st)) (g : GsOk P w K mg base cad k G) (b : BsOk mg B)
    (cdv : Value) (A : Around) (outer : List PySem.Env) (s : Shared) (H : Hp) (E : XK) (hr : Room k (A.deeper (envOfC qual (defScope st) s.heap.objs.size f cdv))) :
    AmbS cad ⟨N, defScope st, G, B, Ms, ml, true⟩ (cxOf (L2.CX P w) P w K mg base N qual (defScope st) f cdv A outer s H E) (wOut E) k where
  hN := rfl
  hs := rfl
  calm := rfl
  nd := S.nd
  tk := takes_of rfl rfl rfl rfl
  rm := hr
  gl := g.get
  bl := b.get
  fn := fun _ _ => rfl
  ps := passes_of rfl
  st := rfl
  fr := rfl
  kf := S.kind
theorem ok_rdQ {x qual : Str} {st : Stmt} {f : Addr} {fd : FuncData} {N ps ml B : List Str} {G : List (Str × GV)} {Ms : List (Str × List (Str × MV))} {body : SF} (F : Fun K x qual st f fd) (S : FnScope N ps (defScope st)) (g : GsOk P w K mg base cad k G) (b : BsOk mg B)
    (h : rd ⟨N, defScope st, G, B, Ms, ml, true⟩ (defBody st) = some body) : FnOk P w K mg base (L2.CX P w) (k + 1) f fd ps (spQ K cad ps.length (mQ N.length body)) :=
  ok_q F S fun cdv A outer s H E hr => (ts_ok (tr_ok 40) true 60).ob (amb_of S g b cdv A outer s H E hr) h
theorem ok_rdG {x qual : Str} {st : Stmt} {f : Addr} {fd : FuncData} {N ps ml B : List Str} {G : List (Str × GV)} {Ms : List (Str × List (Str × MV))} {body : SF} (F : Fun K x qual st f fd) (S : FnScope N ps (defScope st)) (g : GsOk P w K mg base cad k G) (b : BsOk mg B)
    (h : rd ⟨N, defScope st, G, B, Ms, ml, true⟩ (defBody st) = some body) : FnOk P w K mg base (L2.CX P w) (k + 1) f fd ps (spG K cad ps.length (mG N.length body)) :=
  ok_g F S fun cdv A outer s H E hr => (ts_ok (tr_ok 40) false 60).ob (amb_of S g b cdv A outer s H E hr) h
theorem fn_bad {f : Addr} {fd : FuncData} {ps : List Str} {j : Nat} : FnOk P w K mg base (L2.CX P w) j f fd ps (spQ K cad ps.length fun _ _ => .bad) :=
  ⟨fun vs H Q E h => h.1, fun A outer s H args us vs Q E _ _ _ _ h => by
    obtain ⟨_, g, M, ds, _, _, _, z⟩ := h
    exact False.elim z⟩
theorem gv_q {x : Str} {f : Addr} {fd : FuncData} {ps : List Str} {j : Nat} {m : Mo → List Dat → Out Dat} (hj : j ≤ k) (hg : mg x = some (.ref f)) (hk : PySem.W.keepIn K (.ref f) = true) (hB : Binds K fd ps []) (F : FnOk P w K mg base (L2.CX P w) j f fd ps (spQ K cad ps.length m)) : GVok P w K mg base cad k x (.fq ps.length m) :=
  ⟨f, hg, hk, fd, ps, j, hj, rfl, hB, F⟩
theorem gv_int {x : Str} {i : Int} {t : Tok} (h : mg x = some (.int i t)) : GVok P w K mg base cad k x (.con (.int i)) := ⟨.int i, _, h, ⟨t, rfl⟩, fun _ _ => .int i⟩
theorem gv_str {x z : Str} {t : Tok} (h : mg x = some (.str z t)) : GVok P w K mg base cad k x (.con (.str z)) := ⟨.str z, _, h, ⟨t, rfl⟩, fun _ _ => .str z⟩
theorem reps_flat {g : Gh} {H : Hp} : ∀ {vs : List V} {ds : List Dat}, (vs.zip ds).all (fun p => match p with
    | (.int i, .int j) => decide (i = j)
    | (.str x, .str y) => decide (x = y)
    | _ => false) = true → vs.length = ds.length → Reps K g H vs ds
  | [], [], _, _ => .nil
  | [], _ :: _, _, h => nomatch h
  | _ :: _, [], _, h => nomatch h
  | v :: vs, d :: ds, h, hl => by
    rw [List.zip_cons_cons, List.all_cons, Bool.and_eq_true] at h
    refine .cons ?_ (reps_flat h.2 (Nat.succ.inj hl))
    have h1 := h.1
    split at h1
    · next e => cases e; cases of_decide_eq_true h1; exact .int _
    · next e => cases e; cases of_decide_eq_true h1; exact .str _
    · cases h1
theorem gv_tup {x : Str} {a : Addr} {vs : List V} {ds : List Dat} (h : mg x = some (.ref a)) (q : ∀ H : Hp, SqT K H a vs) (hf : (vs.zip ds).all (fun p => match p with
    | (.int i, .int j) => decide (i = j)
    | (.str x, .str y) => decide (x = y)
    | _ => false) = true) (hl : vs.length = ds.length) : GVok P w K mg base cad k x (.con (.tuple ds)) := ⟨.ref a, _, h, rfl, fun _ H => .tup (q H) (reps_flat hf hl)⟩
end
end Rf
/-! # R31: the head by facts over given addresses -/
namespace Rf
open PySem PySem.Spec PyProof.Rows L2

structure SaysL (fa : List He.Fa) (fn : List He.DefD) (tb : List He.Tab) (ex : PySem.W.Frag → Bool) (w : World) (K : PySem.W.Frag) : Prop where
  t : He.SaysT fa fn tb w K
  more : ex K = true
def obsL (as : List Addr) (fa : List He.Fa) (fn : List He.DefD) (tb : List He.Tab) (ex : PySem.W.Frag → Bool) (g : Addr → Option Obj) : He.AlX := (He.obsT fa fn tb (He.frG g as), ex (He.frG g as))
def hookL (as : List Addr) (fa : List He.Fa) (fn : List He.DefD) (tb : List He.Tab) (ex : PySem.W.Frag → Bool) : PySem.W.Hook where
  α := He.AlX
  obs := fun s => obsL as fa fn tb ex s.heap.get?
  val := fun w => He.valX fn tb w
  says := fun w h => ∃ K : PySem.W.Frag, K.In h ∧ SaysL fa fn tb ex w K
  of := fun w s e => ⟨_, He.frG_in, ⟨congrArg (fun z : He.AlX => z.1) e, congrArg (fun z : He.AlX => z.2) e⟩⟩
  keeps := fun _ _ _ ⟨K, hK, c⟩ k => ⟨K, PySem.W.Frag.In.keeps hK k, c⟩
theorem obsL_eq {as : List Addr} {fa : List He.Fa} {fn : List He.DefD} {tb : List He.Tab} {ex : PySem.W.Frag → Bool} {g : Addr → Option Obj} {s : Shared} (h : ∀ a, g a = s.heap.get? a) : obsL as fa fn tb ex g = (hookL as fa fn tb ex).obs s := by
  rw [show g = s.heap.get? from funext h]
  rfl
/-- which addresses: what the module's own names reach -/
def ownStart (g : Addr → Option Obj) (names : List Str) : List Addr := match g mainGlobals with
  | some ⟨_, _, .dict es _, _⟩ => es.toList.filterMap fun e => match e.key, e.val with
    | .str x _, .ref a => if names.contains x then some a else none
    | _, _ => none
  | _ => []
def ownGrow (g : Addr → Option Obj) : Nat → List Addr → List Addr
  | 0, l => l
  | n + 1, l => ownGrow g n (l ++ l.flatMap fun a => match g a with
    | some o => (match o.data with
      | .func fd => He.refV fd.code
      | .cls cd => cd.ns :: []
      | .dict es _ => es.toList.flatMap fun e => He.refV e.val
      | _ => [])
    | none => []).eraseDups
def ownAs (g : Addr → Option Obj) (names : List Str) : List Addr := (mainGlobals :: ownGrow g 3 (ownStart g names)).eraseDups
section
variable {fa : List He.Fa} {fn : List He.DefD} {tb : List He.Tab} {ex : PySem.W.Frag → Bool} {w : World} {K : PySem.W.Frag}
theorem SaysL.fa_ (c : SaysL fa fn tb ex w K) (i : Nat) {f : He.Fa} (h : fa[i]? = some f := by rfl) : f.ok K = true := c.t.d.fact i h
theorem SaysL.fn_ (c : SaysL fa fn tb ex w K) (i : Nat) {d : He.DefD} (h : fn[i]? = some d := by rfl) : ∃ fd, FunD K d.name d.qual d.params d.body d.scope (d.dvs K) (d.kws K) (He.fAd K d.at_) fd := c.t.d.def_ i h
theorem fun_D {x qual : Str} {st : Stmt} {f : Addr} {fd : FuncData} (F : FunD K x qual (defArgs st) (defBody st) (defScope st) [] [] f fd) : L2.Fun K x qual st f fd := by
  obtain ⟨oc, od, dV, kV, doc, pm, an, cdv, ct, osl, e, l, c, hd, _⟩ := F.ex
  rcases hd with ⟨_, z⟩ | ⟨z, _⟩
  · cases z
    exact ⟨⟨oc, od, kV, doc, pm, an, cdv, ct, osl, e, l, c⟩, F.kp⟩
  · exact absurd rfl z
end
/-! ### the law's own call -/
def g0 : Gh := ⟨[], fun _ => none, fun _ => False, fun _ => False⟩
theorem g0_A (a : Addr) : ¬ g0.A a := fun z => by
  rcases z with (z | z) | z | z
  · cases z
  · exact z rfl
  · exact z
  · exact z
theorem g0_kd {H : Hp} : Kd g0 H := ⟨fun a z => absurd z (g0_A a), fun a z => False.elim z, fun a z => False.elim z⟩
theorem g0_wok {K : PySem.W.Frag} {cad : Cad} {H : Hp} (nc : cad "" = none) : WOk K cad g0 H [] := ⟨rfl, fun h k a e => (by cases h <;> cases e), fun h a i e => (by cases h <;> cases e), fun h i e => (by cases h <;> cases e), fun h i e => (by cases h <;> cases e), fun h a i e => (by cases h <;> cases e), fun h i e => (by cases h <;> cases e), nc⟩
theorem ints_reps {K : PySem.W.Frag} {g : Gh} {H : Hp} : ∀ ns : List Int, Reps K g H (ns.map V.int) (ns.map PyData.int)
  | [] => .nil
  | n :: ns => .cons (.int n) (ints_reps ns)
theorem g0_arg {K : PySem.W.Frag} {H : Hp} {a : Addr} {ns : List Int} (hS : SqL K H a (ns.map V.int)) : Reps K g0 H [.ref a] [.list (ns.map PyData.int)] := by
  refine .cons (.lst ?_ (ints_reps ns)) .nil
  rcases hS with h | h
  · exact .inl ⟨h, g0_A a⟩
  · exact .inr h
theorem end_q {K : PySem.W.Frag} {cad : Cad} (nc : cad "" = none) {m : Mo → List Dat → Out Dat} {H : Hp} {a : Addr} {ns : List Int} (hS : SqL K H a (ns.map V.int)) (h : m [] [.list (ns.map PyData.int)] = .ok (.bool true)) : spQ K cad 1 m [.ref a] H (fun v _ => v = .bl true) fun _ _ _ => False :=
  ⟨rfl, g0, [], [.list (ns.map PyData.int)], g0_kd, g0_wok nc, g0_arg hS, by
    rw [h]
    exact fun v H' _ r => by cases r; rfl⟩
theorem end_g {K : PySem.W.Frag} {cad : Cad} (nc : cad "" = none) {m : Mo → List Dat → GOut Dat} {H : Hp} {a : Addr} {ns : List Int} {M : Mo} (hS : SqL K H a (ns.map V.int)) (h : m [] [.list (ns.map PyData.int)] = .ok (.bool true) M) : spG K cad 1 m [.ref a] H (fun v _ => v = .bl true) fun _ _ _ => False :=
  ⟨rfl, g0, [], [.list (ns.map PyData.int)], g0_kd, g0_wok nc, g0_arg hS, by
    rw [h]
    exact fun v H' g' _ _ _ r => by cases r; rfl⟩
end Rf
/-! # R40: mathematics of what the texts evaluate to: walks, lists of ints, rows -/
namespace Rf
open PySem PySem.Spec PyProof.Rows L2 Evl

/-- ints as a list, as a tuple -/
abbrev lI (l : List Int) : Dat := .list (l.map PyData.int)
abbrev tI' (l : List Int) : Dat := .tuple (l.map PyData.int)

theorem forD_nil {tg : TgF} {body : SF} {M : Mo} {ρ : Env} : forD tg body [] M ρ = .next ρ M := rfl
theorem forD_next {tg : TgF} {body : SF} {d : Dat} {ds : List Dat} {M M2 : Mo} {ρ ρ1 ρ2 : Env} (h1 : tg d ρ = some ρ1) (h2 : body M ρ1 = .next ρ2 M2) : forD tg body (d :: ds) M ρ = forD tg body ds M2 ρ2 := by
  rw [forD, h1]
  show (match body M ρ1 with
      | .next ρ2 M2 => forD tg body ds M2 ρ2
      | .cont ρ2 M2 => forD tg body ds M2 ρ2
      | .brk ρ2 M2 => .next ρ2 M2
      | .ret d M2 => .ret d M2
      | .exc x ρ2 M2 => .exc x ρ2 M2
      | .bad => .bad) = _
  rw [h2]
/-- a walk that carries a state -/
theorem forD_fold {α S : Type} {tg : TgF} {body : SF} (ds : α → Dat) (E : S → Env) (Mm : S → Mo) (st : S → α → S) (I : S → Prop) : ∀ (xs : List α) (_ : ∀ s x, I s → x ∈ xs → (∃ ρ1, tg (ds x) (E s) = some ρ1 ∧ body (Mm s) ρ1 = .next (E (st s x)) (Mm (st s x))) ∧ I (st s x)) (s : S), I s → forD tg body (xs.map ds) (Mm s) (E s) = .next (E (xs.foldl st s)) (Mm (xs.foldl st s)) ∧ I (xs.foldl st s)
  | [], _, s, i => ⟨rfl, i⟩
  | x :: xs, h, s, i => by
    obtain ⟨⟨ρ1, h1, h2⟩, i2⟩ := h s x i List.mem_cons_self
    rw [List.map_cons, forD_next h1 h2]
    exact forD_fold ds E Mm st I xs (fun s y i m => h s y i (List.mem_cons_of_mem _ m)) _ i2
theorem compD_map {α : Type} {tg : TgF} {tt : QT} {te : QF} {M : Mo} {ρ : Env} (ds : α → Dat) (p : α → Bool) (f : α → Dat) : ∀ (xs : List α), (∀ x ∈ xs, ∃ ρ1, tg (ds x) ρ = some ρ1 ∧ tt M ρ1 = .ok (p x) ∧ (p x = true → te M ρ1 = .ok (f x))) → compD tg tt te M ρ (xs.map ds) = .ok ((xs.filter p).map f)
  | [], _ => rfl
  | x :: xs, h => by
    obtain ⟨ρ1, h1, h2, h3⟩ := h x List.mem_cons_self
    have ih := compD_map ds p f xs fun y hy => h y (List.mem_cons_of_mem _ hy)
    rw [List.map_cons, compD, h1]
    show ((noX (tt M ρ1)).bind fun b => if b = true then (noX (te M ρ1)).bind fun y => (compD tg tt te M ρ (xs.map ds)).bind fun r => .ok (y :: r) else compD tg tt te M ρ (xs.map ds)) = _
    rw [h2, ih]
    cases hp : p x with
    | true =>
      show (if true = true then (noX (te M ρ1)).bind fun y => (Out.ok ((xs.filter p).map f)).bind fun r => .ok (y :: r) else Out.ok ((xs.filter p).map f)) = _
      rw [h3 hp, if_pos rfl, List.filter_cons_of_pos hp]
      rfl
    | false =>
      show (if false = true then (noX (te M ρ1)).bind fun y => (Out.ok ((xs.filter p).map f)).bind fun r => .ok (y :: r) else Out.ok ((xs.filter p).map f)) = _
      rw [if_neg (by decide), List.filter_cons_of_neg (by rw [hp]; decide)]
theorem compD_all {α : Type} {tg : TgF} {te : QF} {M : Mo} {ρ : Env} (ds : α → Dat) (f : α → Dat) (xs : List α) (h : ∀ x ∈ xs, ∃ ρ1, tg (ds x) ρ = some ρ1 ∧ te M ρ1 = .ok (f x)) : compD tg qtYes te M ρ (xs.map ds) = .ok (xs.map f) := by
  have := compD_map (tt := qtYes) ds (fun _ => true) f xs fun x hx => by
    obtain ⟨ρ1, h1, h2⟩ := h x hx
    exact ⟨ρ1, h1, rfl, fun _ => h2⟩
  rw [this, List.filter_eq_self.mpr (fun _ _ => rfl)]
theorem mul_l {i j : Int} (h : -(2 ^ 64) < i ∧ i < 2 ^ 64) : decide (CMul i j) = true := decide_eq_true (.inl h)
theorem mul_r {i j : Int} (h : -(2 ^ 64) < j ∧ j < 2 ^ 64) : decide (CMul i j) = true := decide_eq_true (.inr h)
end Rf
/-! # R41: evaluation, row by row -/
namespace Rf
open PySem PySem.Spec PyProof.Rows L2 Evl
section
variable (M : Mo) (ρ : Env)
@[simp] theorem ev_seq (f k : SF) : sSeq f k M ρ = match f M ρ with
  | .next ρ' M' => k M' ρ'
  | o => o := rfl
@[simp] theorem ev_skip : sSkip M ρ = .next ρ M := rfl
@[simp] theorem ev_set (tg : TgF) (f : GF) : sSet tg f M ρ = (f M ρ).then ρ fun d M' => match tg d ρ with
  | some ρ' => .next ρ' M'
  | none => .bad := rfl
@[simp] theorem ev_set2 (i j : Nat) (f : GF) : sSet2 i j f M ρ = (f M ρ).then ρ fun d M' => .next ((ρ.set i (some (.dat d))).set j (some (.dat d))) M' := rfl
@[simp] theorem ev_if (t : QT) (f k : SF) : sIf t f k M ρ = ((t M (thaw ρ)).at M).then ρ fun c M' => if c = true then f M' ρ else k M' ρ := rfl
@[simp] theorem ev_ret (f : QF) : sRet f M ρ = ((f M (thaw ρ)).at M).then ρ fun d M' => .ret d M' := rfl
@[simp] theorem ev_for (it : IF) (tg : TgF) (body : SF) : sFor it tg body M ρ = ((it M ρ).at M).then ρ fun ds M' => forD tg body ds M' ρ := rfl
@[simp] theorem ev_mut (j : Nat) (f : IF) : sMut j f M ρ = ((f M ρ).at M).then ρ fun xs M' => .next (ρ.set j (some (.mut xs))) M' := rfl
@[simp] theorem ev_drop (f : GF) : sDrop f M ρ = (f M ρ).then ρ fun _ M' => .next ρ M' := rfl
@[simp] theorem ev_app (j : Nat) (f : QF) : sApp j f M ρ = match ρ[j]? with
  | some (some (.mut xs)) => ((f M ρ).at M).then ρ fun d M' => if xs.length < 100000 then .next (ρ.set j (some (.mut (xs ++ [d])))) M' else .bad
  | _ => .bad := rfl
@[simp] theorem ev_setI (j : Nat) (fi f : QF) : sSetI j fi f M ρ = match ρ[j]? with
  | some (some (.mut xs)) => ((f M ρ).at M).then ρ fun d M' => ((fi M' ρ).at M').then ρ fun i M2 => match i with
    | .int k => match ixN xs.length k with
      | some n => .next (ρ.set j (some (.mut (xs.set n d)))) M2
      | none => .bad
    | _ => .bad
  | _ => .bad := rfl
@[simp] theorem ev_aug (j : Nat) (f : QF) : sAug j f M ρ = match ρ[j]? with
  | some (some (.dat (.int i))) => ((f M ρ).at M).then ρ fun d M' => match d with
    | .int k => .next (ρ.set j (some (.dat (.int (i + k))))) M'
    | _ => .bad
  | _ => .bad := rfl
@[simp] theorem ev_star (i j : Nat) (f : GF) : sStar i j f M ρ = (f M ρ).then ρ fun d M' => match d with
  | .list (d0 :: ds) => if ds.length ≤ 16000 then .next ((ρ.set i (some (.dat d0))).set j (some (.dat (.list ds)))) M' else .bad
  | .tuple (d0 :: ds) => if ds.length ≤ 16000 then .next ((ρ.set i (some (.dat d0))).set j (some (.dat (.list ds)))) M' else .bad
  | _ => .bad := rfl
@[simp] theorem ev_pn (js : List Nat) (as : QA) : sPN js as M ρ = ((as M ρ).at M).then ρ fun ds M' => match tgNames js ds ρ with
  | some ρ' => .next ρ' M'
  | none => .bad := rfl
@[simp] theorem ev_gOf (f : QF) : gOf f M ρ = (f M ρ).at M := rfl
@[simp] theorem ev_op (o : Dat → Dat → Out Dat) (a b : QF) : qOp o a b M ρ = (a M ρ).bind fun x => (b M ρ).bind fun y => o x y := rfl
@[simp] theorem ev_un (o : Dat → Out Dat) (a : QF) : qUn o a M ρ = (a M ρ).bind o := rfl
@[simp] theorem ev_c (d : Dat) : qC d M ρ = .ok d := rfl
@[simp] theorem ev_var (i : Nat) : qVar i M ρ = match ρ[i]? with
  | some (some (.dat d)) => .ok d
  | _ => .bad := rfl
@[simp] theorem ev_wvar (i : Nat) : qwVar i M ρ = match ρ[i]? with
  | some (some (.dat d)) => .ok d
  | some (some (.mut xs)) => .ok (.list xs)
  | _ => .bad := rfl
@[simp] theorem ev_nil : qNil M ρ = .ok [] := rfl
@[simp] theorem ev_cons (a : QF) (r : QA) : qCons a r M ρ = (a M ρ).bind fun x => (r M ρ).bind fun xs => .ok (x :: xs) := rfl
@[simp] theorem ev_tup (r : QA) : qTup r M ρ = (r M ρ).bind fun xs => Out.when (decide (xs.length ≤ 100000)) (.ok (.tuple xs)) := rfl
@[simp] theorem ev_lst (r : QA) : qLst r M ρ = (r M ρ).bind fun xs => Out.when (decide (xs.length ≤ 100000)) (.ok (.list xs)) := rfl
@[simp] theorem ev_tru (a : QF) : qTru a M ρ = (a M ρ).bind truB := rfl
@[simp] theorem ev_bl (a : QF) : qBl a M ρ = (a M ρ).bind blB := rfl
@[simp] theorem ev_tnot (a : QT) : qtNot a M ρ = (a M ρ).bind fun b => .ok (!b) := rfl
@[simp] theorem ev_tand (a b : QT) : qtAnd a b M ρ = (a M ρ).bind fun x => if x = true then b M ρ else .ok false := rfl
@[simp] theorem ev_tor (a b : QT) : qtOr a b M ρ = (a M ρ).bind fun x => if x = true then .ok true else b M ρ := rfl
@[simp] theorem ev_of (a : QT) : qOf a M ρ = (a M ρ).bind fun b => .ok (.bool b) := rfl
@[simp] theorem ev_ifx (t : QT) (a b : QF) : qIf t a b M ρ = (t M ρ).bind fun x => if x = true then a M ρ else b M ρ := rfl
@[simp] theorem ev_is (neg : Bool) (c : Dat) (a : QF) : qIs neg c a M ρ = (a M ρ).bind fun d => .ok (.bool (neg ^^ isCB c d)) := rfl
@[simp] theorem ev_notV (a : QF) : qNotV a M ρ = ((a M ρ).bind blB).bind fun b => .ok (.bool (!b)) := by
  show (((a M ρ).bind blB).bind fun b => Out.ok (!b)).bind (fun b => Out.ok (PyData.bool b)) = _
  cases a M ρ with
  | ok d => cases h : blB d <;> simp [Out.bind, h]
  | exc x => rfl
  | bad => rfl
@[simp] theorem ev_andV (a b : QF) : qAndV a b M ρ = (a M ρ).bind fun d => (blB d).bind fun x => if x = true then b M ρ else .ok (.bool false) := rfl
@[simp] theorem ev_orV (a b : QF) : qOrV a b M ρ = (a M ρ).bind fun d => (blB d).bind fun x => if x = true then .ok (.bool true) else b M ρ := rfl
@[simp] theorem ev_chain (o o' : Dat → Dat → Out Dat) (a b c : QF) : qChain o o' a b c M ρ = (a M ρ).bind fun x => (b M ρ).bind fun y => (o x y).bind fun z => (blB z).bind fun k => if k = true then (c M ρ).bind fun w => (o' y w).bind blB else .ok false := rfl
@[simp] theorem ev_isi (t : TyN) (a : QF) : qIsi t a M ρ = (a M ρ).bind (isiD t) := rfl
@[simp] theorem ev_sl (a : QF) (lo hi : QO) : qSl a lo hi M ρ = (a M ρ).bind fun d => (lo M ρ).bind fun l => (hi M ρ).bind fun h => slD d l h := rfl
@[simp] theorem ev_oN : qoNone M ρ = .ok none := rfl
@[simp] theorem ev_oS (a : QF) : qoSome a M ρ = (a M ρ).bind fun d => (intB d).bind fun i => .ok (some i) := rfl
@[simp] theorem ev_call (m : Mo → List Dat → Out Dat) (as : QA) : qCall m as M ρ = (as M ρ).bind fun ds => m M ds := rfl
@[simp] theorem ev_items (a : QF) : qItems a M ρ = (a M ρ).bind itemsD := rfl
@[simp] theorem ev_range1 (a : QF) : qRange1 a M ρ = (a M ρ).bind fun d => (intB d).bind fun n => Out.when (decide (n ≤ 100000 ∧ -100000 ≤ n)) (.ok (rangeD 0 n.toNat)) := rfl
@[simp] theorem ev_enum (k₀ : Int) (a : QF) : qEnum k₀ a M ρ = (a M ρ).bind fun d => (itemsD d).bind fun ds => .ok (enumD k₀ ds) := rfl
@[simp] theorem ev_zip (a b : QF) : qZip a b M ρ = (a M ρ).bind fun d => (b M ρ).bind fun e => (itemsD d).bind fun ds => (itemsD e).bind fun es => .ok (zipD ds es) := rfl
@[simp] theorem ev_comp (it : IF) (tg : TgF) (vs : List Nat) (tt : QT) (te : QF) : qComp it tg vs tt te M ρ = (it M ρ).bind fun ds => Out.when (decide (ds.length ≤ 50000)) ((compD tg tt te M (wipeE ρ vs) ds).bind fun r => .ok (.list r)) := rfl
@[simp] theorem ev_compL (it : IF) (tg : TgF) (vs : List Nat) (tt : QT) (te : QF) : qCompL it tg vs tt te M ρ = (it M ρ).bind fun ds => Out.when (decide (ds.length ≤ 50000)) (compD tg tt te M (wipeE ρ vs) ds) := rfl
@[simp] theorem ev_asL (f : QA) : asL f M ρ = (f M ρ).bind fun xs => Out.when (decide (xs.length ≤ 100000)) (.ok xs) := rfl
@[simp] theorem ev_asListOf (f : QF) : asListOf f M ρ = (f M ρ).bind listL := rfl
@[simp] theorem ev_tgName (j : Nat) (d : Dat) : tgName j d ρ = some (ρ.set j (some (.dat d))) := rfl
@[simp] theorem ev_tgTup (js : List Nat) (ds : List Dat) : tgTup js (.tuple ds) ρ = tgNames js ds ρ := rfl
@[simp] theorem ev_mQ (n : Nat) (b : SF) (ds : List Dat) : mQ n b M ds = match b M (ini n ds) with
  | .ret d _ => .ok d
  | .next _ _ => .ok .none
  | .exc x _ _ => .exc x
  | _ => .bad := rfl
@[simp] theorem ev_mG (n : Nat) (b : SF) (ds : List Dat) : mG n b M ds = match b M (ini n ds) with
  | .ret d M' => .ok d M'
  | .next _ M' => .ok .none M'
  | .exc x _ M' => .exc x M'
  | _ => .bad := rfl
end
section
variable (i j : Int) (ds es : List Dat) (b c : Bool) (x y : Str)
@[simp] theorem ev_addI : addD (.int i) (.int j) = .ok (.int (i + j)) := rfl
@[simp] theorem ev_addL : addD (.list ds) (.list es) = Out.when (decide (ds.length + es.length ≤ 100000)) (.ok (.list (ds ++ es))) := rfl
@[simp] theorem ev_addT : addD (.tuple ds) (.tuple es) = Out.when (decide (ds.length + es.length ≤ 100000)) (.ok (.tuple (ds ++ es))) := rfl
@[simp] theorem ev_sub : subD (.int i) (.int j) = .ok (.int (i - j)) := rfl
@[simp] theorem ev_mul : mulD (.int i) (.int j) = Out.when (decide (CMul i j)) (.ok (.int (i * j))) := rfl
@[simp] theorem ev_div : divD (.int i) (.int j) = Out.when (decide (CDiv i j)) (.ok (.int (i / j))) := rfl
@[simp] theorem ev_mod : modD (.int i) (.int j) = Out.when (decide (0 < j)) (.ok (.int (i % j))) := rfl
@[simp] theorem ev_pow : powD (.int i) (.int j) = Out.when (decide (CPow i j)) (.ok (.int (i ^ j.toNat))) := rfl
@[simp] theorem ev_lt : ltD (.int i) (.int j) = .ok (.bool (decide (i < j))) := rfl
@[simp] theorem ev_le : leD (.int i) (.int j) = .ok (.bool (decide (i ≤ j))) := rfl
@[simp] theorem ev_gt : gtD (.int i) (.int j) = .ok (.bool (decide (j < i))) := rfl
@[simp] theorem ev_ge : geD (.int i) (.int j) = .ok (.bool (decide (j ≤ i))) := rfl
@[simp] theorem ev_eqI : eqD (.int i) (.int j) = .ok (.bool (i == j)) := rfl
@[simp] theorem ev_eqS : eqD (.str x) (.str y) = .ok (.bool (x == y)) := rfl
@[simp] theorem ev_eqB : eqD (.bool b) (.bool c) = .ok (.bool (b == c)) := rfl
@[simp] theorem ev_neI : neD (.int i) (.int j) = .ok (.bool (!(i == j))) := rfl
@[simp] theorem ev_neS : neD (.str x) (.str y) = .ok (.bool (!(x == y))) := rfl
@[simp] theorem ev_neg : negD (.int i) = .ok (.int (-i)) := rfl
@[simp] theorem ev_truB : truB (.bool b) = .ok b := rfl
@[simp] theorem ev_truL : truB (.list ds) = .ok (!ds.isEmpty) := rfl
@[simp] theorem ev_truT : truB (.tuple ds) = .ok (!ds.isEmpty) := rfl
@[simp] theorem ev_blB : blB (.bool b) = .ok b := rfl
@[simp] theorem ev_lenL : lenD (.list ds) = .ok (.int ds.length) := rfl
@[simp] theorem ev_lenT : lenD (.tuple ds) = .ok (.int ds.length) := rfl
@[simp] theorem ev_abs : absD (.int i) = .ok (.int (if i < 0 then -i else i)) := rfl
@[simp] theorem ev_max2 : max2D (.int i) (.int j) = .ok (.int (if j > i then j else i)) := rfl
@[simp] theorem ev_min2 : min2D (.int i) (.int j) = .ok (.int (if j < i then j else i)) := rfl
@[simp] theorem ev_ixL : ixD (.list ds) (.int i) = match atI ds i with
    | some d => .ok d
    | none => .bad := rfl
@[simp] theorem ev_ixT : ixD (.tuple ds) (.int i) = match atI ds i with
    | some d => .ok d
    | none => .bad := rfl
@[simp] theorem ev_intB : intB (.int i) = .ok i := rfl
@[simp] theorem ev_slL (lo hi : Option Int) : slD (.list ds) lo hi = .ok (.list (cutD ds lo hi)) := rfl
@[simp] theorem ev_slT (lo hi : Option Int) : slD (.tuple ds) lo hi = .ok (.tuple (cutD ds lo hi)) := rfl
@[simp] theorem ev_tupL : tupleD (.list ds) = .ok (.tuple ds) := rfl
@[simp] theorem ev_tupT : tupleD (.tuple ds) = .ok (.tuple ds) := rfl
@[simp] theorem ev_listL : listD (.list ds) = .ok (.list ds) := rfl
@[simp] theorem ev_listT : listD (.tuple ds) = .ok (.list ds) := rfl
@[simp] theorem ev_lLl : listL (.list ds) = .ok ds := rfl
@[simp] theorem ev_lLt : listL (.tuple ds) = .ok ds := rfl
@[simp] theorem ev_itL : itemsD (.list ds) = .ok ds := rfl
@[simp] theorem ev_itT : itemsD (.tuple ds) = .ok ds := rfl
@[simp] theorem ev_thaw (o : Option Cell) (ρ : Env) : thaw (o :: ρ) = o.map thawC :: thaw ρ := rfl
@[simp] theorem ev_thawN : thaw [] = [] := rfl
@[simp] theorem ev_thawC (d : Dat) : thawC (.dat d) = .dat d := rfl
@[simp] theorem ev_thawM (ds : List Dat) : thawC (.mut ds) = .dat (.list ds) := rfl
@[simp] theorem ev_tgN0 (ρ : Env) : tgNames [] [] ρ = some ρ := rfl
@[simp] theorem ev_tgN1 (j : Nat) (js : List Nat) (d : Dat) (ρ : Env) : tgNames (j :: js) (d :: ds) ρ = tgNames js ds (ρ.set j (some (.dat d))) := rfl
@[simp] theorem ev_wipe0 (ρ : Env) : wipeE ρ [] = ρ := rfl
@[simp] theorem ev_wipe1 (ρ : Env) (j : Nat) (js : List Nat) : wipeE ρ (j :: js) = (wipeE ρ js).set j none := rfl
@[simp] theorem atI_cons0 {α : Type} (a : α) (l : List α) : atI (a :: l) 0 = some a := atI_nat (j := 0) rfl
@[simp] theorem ini_def (n : Nat) : ini n ds = ds.map (fun d => some (.dat d)) ++ List.replicate (n - ds.length) none := rfl
end
theorem ofS_inj {a b : String} : Str.ofString a = Str.ofString b ↔ a = b := by
  constructor
  · intro h
    rw [Str.ofString_eq_toList, Str.ofString_eq_toList] at h
    have h1 : a.toList.map Char.toNat = b.toList.map Char.toNat := by simpa using h
    have h2 : a.toList = b.toList := by
      refine List.map_inj_right (f := Char.toNat) (fun x y e => ?_) |>.mp h1
      exact Char.ext (UInt32.toNat_inj.mp e)
    exact String.toList_inj.mp h2
  · rintro rfl
    rfl
@[simp] theorem ofS_eq (a b : String) : (Str.ofString a = Str.ofString b) = (a = b) := propext ofS_inj
@[simp] theorem ofS_beq (a b : String) : (Str.ofString a == Str.ofString b) = decide (a = b) := by
  rw [Bool.eq_iff_iff]
  simp [ofS_inj]
@[simp] theorem atI_1 {α : Type} (a b : α) (l : List α) : atI (a :: b :: l) 1 = some b := atI_nat (j := 1) rfl
@[simp] theorem atI_2 {α : Type} (a b c : α) (l : List α) : atI (a :: b :: c :: l) 2 = some c := atI_nat (j := 2) rfl
@[simp] theorem atI_3 {α : Type} (a b c d : α) (l : List α) : atI (a :: b :: c :: d :: l) 3 = some d := atI_nat (j := 3) rfl
@[simp] theorem atI_4 {α : Type} (a b c d e : α) (l : List α) : atI (a :: b :: c :: d :: e :: l) 4 = some e := atI_nat (j := 4) rfl
@[simp] theorem atI_5 {α : Type} (a b c d e f : α) (l : List α) : atI (a :: b :: c :: d :: e :: f :: l) 5 = some f := atI_nat (j := 5) rfl
@[simp] theorem atI_6 {α : Type} (a b c d e f g : α) (l : List α) : atI (a :: b :: c :: d :: e :: f :: g :: l) 6 = some g := atI_nat (j := 6) rfl
@[simp] theorem strOk_of (s : String) : PyData.strOk (Str.ofString s) = true := by
  rw [Str.ofString_eq_toList]
  unfold PyData.strOk
  simp only [Array.all_eq_true, decide_eq_true_eq]
  intro i h
  simp only [List.getElem_toArray, List.getElem_map]
  have := s.toList[i]'(by simpa using h) |>.valid
  rcases this with z | ⟨_, z⟩
  · show (s.toList[i]'(by simpa using h)).val.toNat < _
    omega
  · show (s.toList[i]'(by simpa using h)).val.toNat < _
    omega
section
variable (i j : Int) (x y : Str) (d e : Dat) (ds es : List Dat) (b c : Bool)
@[simp] theorem eqv_ii : PyData.eqv (.int i) (.int j) = (i == j) := by simp [PyData.eqv]
@[simp] theorem eqv_ss : PyData.eqv (.str x) (.str y) = (x == y) := by simp [PyData.eqv]
@[simp] theorem eqv_bb : PyData.eqv (.bool b) (.bool c) = (b == c) := by simp [PyData.eqv]
@[simp] theorem eqv_nn : PyData.eqv .none .none = true := by simp [PyData.eqv]
@[simp] theorem eqv_tt : PyData.eqv (.tuple ds) (.tuple es) = PyData.eqvAll ds es := by simp [PyData.eqv]
@[simp] theorem eqv_ll : PyData.eqv (.list ds) (.list es) = PyData.eqvAll ds es := by simp [PyData.eqv]
@[simp] theorem eqv_tn : PyData.eqv (.tuple ds) .none = false := by simp [PyData.eqv]
@[simp] theorem eqv_nt : PyData.eqv .none (.tuple ds) = false := by simp [PyData.eqv]
@[simp] theorem eqv_si : PyData.eqv (.str x) (.int i) = false := by simp [PyData.eqv]
@[simp] theorem eqv_is : PyData.eqv (.int i) (.str x) = false := by simp [PyData.eqv]
@[simp] theorem eqvs_nn : PyData.eqvAll [] [] = true := by simp [PyData.eqvAll]
@[simp] theorem eqvs_nc : PyData.eqvAll [] (d :: ds) = false := by simp [PyData.eqvAll]
@[simp] theorem eqvs_cn : PyData.eqvAll (d :: ds) [] = false := by simp [PyData.eqvAll]
@[simp] theorem eqvs_cc : PyData.eqvAll (d :: ds) (e :: es) = (PyData.eqv d e && PyData.eqvAll ds es) := by simp [PyData.eqvAll]
end
@[simp] theorem eqvAll_ints : ∀ l m : List Int, PyData.eqvAll (l.map PyData.int) (m.map PyData.int) = decide (l = m)
  | [], [] => by simp
  | [], _ :: _ => by simp
  | _ :: _, [] => by simp
  | a :: l, b :: m => by
    rw [List.map_cons, List.map_cons, eqvs_cc, eqvAll_ints l m, eqv_ii]
    by_cases h : a = b <;> by_cases h2 : l = m <;> simp [h, h2]
theorem okd_mono : ∀ {n : Nat} {d : Dat}, okd n d = true → okd (n + 1) d = true := by
  have key : ∀ n : Nat, (∀ d, okd n d = true → okd (n + 1) d = true) ∧ ∀ ds, okds n ds = true → okds (n + 1) ds = true := by
    intro n
    induction n with
    | zero =>
      have h1 : ∀ d, okd 0 d = true → okd 1 d = true := fun d h => by cases d <;> simp [okd] at h ⊢ <;> first | exact h | trivial
      refine ⟨h1, fun ds => ?_⟩
      induction ds with
      | nil => intro _; rfl
      | cons d ds ih =>
        intro h
        simp only [okds, Bool.and_eq_true] at h ⊢
        exact ⟨h1 d h.1, ih h.2⟩
    | succ n ih =>
      have h1 : ∀ d, okd (n + 1) d = true → okd (n + 1 + 1) d = true := fun d h => by
        cases d <;> simp [okd] at h ⊢ <;> first | exact h | exact ih.2 _ h | trivial
      refine ⟨h1, fun ds => ?_⟩
      induction ds with
      | nil => intro _; rfl
      | cons d ds ih2 =>
        intro h
        simp only [okds, Bool.and_eq_true] at h ⊢
        exact ⟨h1 d h.1, ih2 h.2⟩
  exact fun {n d} h => (key n).1 d h
theorem okds_iff {n : Nat} : ∀ {ds : List Dat}, okds n ds = true ↔ ∀ d ∈ ds, okd n d = true
  | [] => by simp [okds]
  | d :: ds => by simp [okds, okds_iff (ds := ds)]
@[simp] theorem okd_int (n : Nat) (i : Int) : okd n (.int i) = true := by simp [okd]
@[simp] theorem okds_ints (n : Nat) (l : List Int) : okds n (l.map PyData.int) = true := okds_iff.mpr fun d h => by
  obtain ⟨i, _, rfl⟩ := List.mem_map.mp h
  simp
theorem eqv_self {n : Nat} {d : Dat} (h : okd n d = true) : PyData.eqv d d = true := PySem.SeqAt.eqv_refl d (okd_lay n d h).1
theorem atI_lit {α : Type} {l : List α} {n : Nat} {a : α} (h : l[n]? = some a) : atI l (OfNat.ofNat n : Int) = some a := atI_nat h
end Rf
namespace Pr
open PySem PySem.Spec PyProof.Rows L2 Evl Rf
def k_BARE_EAR : Dat := .tuple [.int 0, .int 0, .int 0, .int 0, .int 0, .int 0]
def b_cell : SF :=
  (sSeq (sIf (qBl (qOp ltD (qwVar 1) (qUn lenD (qwVar 0)))) (sRet (qOp ixD (qwVar 0) (qwVar 1))) sSkip)
  (sRet (qC (.int 0))))
def m_cell : Mo → List Dat → Out Dat := mQ 2 b_cell
def f_row_2 : SF :=
  (sSeq (sSet (tgName 5) (gOf (qOp modD (qOp addD (qOp addD (qOp mulD (qwVar 5) (qC (.int 48271))) (qOp mulD (qC (.int 9973)) (qwVar 4))) (qC (.int 11))) (qC (.int 2147483647)))))
  (sApp 3 (qOp modD (qOp divD (qwVar 5) (qC (.int 1021))) (qwVar 2))))
def f_row_1 : SF :=
  (sSeq (sApp 3 (qOp modD (qwVar 0) (qwVar 2)))
  (sSet (tgName 0) (gOf (qOp divD (qwVar 0) (qwVar 2)))))
def b_row : SF :=
  (sSeq (sMut 3 (asL qNil))
  (sSeq (sSet (tgName 0) (gOf (qUn absD (qwVar 0))))
  (sSeq (sIf (qBl (qOp geD (qwVar 0) (qOp powD (qC (.int 10)) (qC (.int 18))))) (sSeq (sFor (qRange1 (qwVar 1)) (tgName 4) f_row_1)
  (sRet (qVar 3))) sSkip)
  (sSeq (sSet (tgName 5) (gOf (qOp modD (qOp mulD (qOp addD (qOp modD (qwVar 0) (qC (.int 1000003))) (qC (.int 17))) (qC (.int 69621))) (qC (.int 2147483647)))))
  (sSeq (sFor (qRange1 (qwVar 1)) (tgName 4) f_row_2)
  (sRet (qVar 3)))))))
def m_row : Mo → List Dat → Out Dat := mQ 6 b_row
def b_ear_by : SF :=
  (sSeq (sIf (qBl (qOp eqD (qOp modD (qwVar 1) (qC (.int 4))) (qC (.int 1)))) (sRet (qUn tupleD (qComp (qItems (qwVar 0)) (tgName 2) [2] qtYes (qOp max2D (qC (.int 0)) (qOp subD (qwVar 2) (qC (.int 7))))))) sSkip)
  (sSeq (sIf (qBl (qOp eqD (qOp modD (qwVar 1) (qC (.int 4))) (qC (.int 2)))) (sRet (qUn tupleD (qComp (qItems (qwVar 0)) (tgName 2) [2] qtYes (qOp modD (qwVar 2) (qC (.int 3)))))) sSkip)
  (sRet (qUn tupleD (qwVar 0)))))
def m_ear_by : Mo → List Dat → Out Dat := mQ 3 b_ear_by
def b_ear : SF :=
  (sSeq (sSet (tgName 1) (gOf (qCall m_row (qCons (qVar 0) (qCons (qC (.int 7)) (qCons (qC (.int 10)) qNil))))))
  (sRet (qCall m_ear_by (qCons (qSl (qwVar 1) qoNone (qoSome (qC (.int 6)))) (qCons (qOp ixD (qwVar 1) (qC (.int 6))) qNil)))))
def m_ear : Mo → List Dat → Out Dat := mQ 2 b_ear
def f_story_1 : SF :=
  (sSeq (sSet (tgName 5) (gOf (qCall m_row (qCons (qVar 2) (qCons (qC (.int 10)) (qCons (qC (.int 10)) qNil))))))
  (sSeq (sSet (tgName 6) (gOf (qUn tupleD (qSl (qwVar 5) qoNone (qoSome (qC (.int 6)))))))
  (sSeq (sSet (tgName 7) (gOf (qOp addD (qOp addD (qC (.int 1)) (qOp ixD (qwVar 5) (qC (.int 6)))) (qOp mulD (qC (.int 10)) (qOp ixD (qwVar 5) (qC (.int 7)))))))
  (sSeq (sSet (tgName 8) (gOf (qOp addD (qC (.int 1)) (qOp ixD (qwVar 5) (qC (.int 7))))))
  (sIf (qBl (qOp ltD (qOp ixD (qwVar 5) (qC (.int 8))) (qC (.int 4)))) (sApp 4 (qTup (qCons (qC (.str "torn")) (qCons (qOp modD (qOp ixD (qwVar 5) (qC (.int 9))) (qC (.int 6))) qNil)))) (sIf (qBl (qOp ltD (qOp ixD (qwVar 5) (qC (.int 8))) (qC (.int 6)))) (sApp 4 (qTup (qCons (qC (.str "cut")) (qCons (qVar 6) qNil)))) (sSeq (sSet (tgName 9) (gOf (qLst (qCons (qTup (qCons (qC (.str "sold")) (qCons (qVar 7) (qCons (qVar 6) qNil)))) (qCons (qTup (qCons (qC (.str "moved")) (qCons (qVar 8) qNil))) (qCons (qTup (qCons (qC (.str "followed")) (qCons (qVar 7) (qCons (qVar 8) qNil)))) (qCons (qTup (qCons (qC (.str "passed")) (qCons (qVar 7) qNil))) (qCons (qTup (qCons (qC (.str "died")) qNil)) qNil))))))))
  (sApp 4 (qOp ixD (qwVar 9) (qOp modD (qOp ixD (qwVar 5) (qC (.int 9))) (qC (.int 5))))))))))))
def b_story : SF :=
  (sSeq (sSet (tgName 2) (gOf (qCall m_cell (qCons (qVar 0) (qCons (qVar 1) qNil)))))
  (sSeq (sSet (tgName 3) (gOf (qTup (qCons (qC (.str "brought")) (qCons (qOp addD (qC (.int 1)) (qOp modD (qwVar 2) (qC (.int 5)))) (qCons (qOp addD (qC (.int 1)) (qOp modD (qOp divD (qwVar 2) (qC (.int 5))) (qC (.int 4)))) (qCons (qCall m_ear (qCons (qOp divD (qwVar 2) (qC (.int 20))) qNil)) qNil)))))))
  (sSeq (sIf (qBl (qOp eqD (qOp modD (qwVar 2) (qC (.int 3))) (qC (.int 1)))) (sSet (tgName 3) (gOf (qTup (qCons (qC (.str "born")) (qCons (qOp addD (qC (.int 1)) (qOp modD (qOp divD (qwVar 2) (qC (.int 3))) (qC (.int 20)))) (qCons (qOp addD (qC (.int 1)) (qOp modD (qwVar 2) (qC (.int 5)))) (qCons (qOp addD (qC (.int 1)) (qOp modD (qOp divD (qwVar 2) (qC (.int 5))) (qC (.int 4)))) qNil))))))) sSkip)
  (sSeq (sMut 4 (asL (qCons (qVar 3) qNil)))
  (sSeq (sFor (qItems (qSl (qwVar 0) (qoSome (qOp addD (qwVar 1) (qC (.int 1)))) qoNone)) (tgName 2) f_story_1)
  (sRet (qVar 4)))))))
def m_story : Mo → List Dat → Out Dat := mQ 10 b_story
def b_begun : SF :=
  (sSeq (sIf (qBl (qOp eqD (qOp ixD (qwVar 0) (qC (.int 0))) (qC (.str "born")))) (sSeq (sSet (tgTup [1, 2, 3, 4]) (gOf (qVar 0)))
  (sRet (qTup (qCons (qVar 3) (qCons (qVar 4) (qCons (qC .none) (qCons (qC k_BARE_EAR) (qCons (qC (.bool true)) qNil)))))))) sSkip)
  (sSeq (sSet (tgTup [1, 3, 4, 5]) (gOf (qVar 0)))
  (sRet (qTup (qCons (qVar 3) (qCons (qVar 4) (qCons (qC .none) (qCons (qVar 5) (qCons (qC (.bool true)) qNil)))))))))
def m_begun : Mo → List Dat → Out Dat := mQ 6 b_begun
def b_deepened : SF :=
  (sRet (qUn tupleD (qComp (qEnum 0 (qwVar 0)) (tgTup [2, 3]) [2, 3] qtYes (qIf (qBl (qOp eqD (qwVar 2) (qwVar 1))) (qOp addD (qwVar 3) (qC (.int 1))) (qVar 3)))))
def m_deepened : Mo → List Dat → Out Dat := mQ 4 b_deepened
def b_gone_on : SF :=
  (sSeq (sSet (tgTup [2, 3, 4, 5, 6]) (gOf (qVar 0)))
  (sSeq (sSet (tgName 7) (gOf (qOp ixD (qwVar 1) (qC (.int 0)))))
  (sSeq (sIf (qBl (qOp eqD (qwVar 7) (qC (.str "cut")))) (sSet2 4 5 (gOf (qOp ixD (qwVar 1) (qC (.int 1))))) (sIf (qBl (qOp eqD (qwVar 7) (qC (.str "torn")))) (sSet (tgName 5) (gOf (qCall m_deepened (qCons (qVar 5) (qCons (qOp ixD (qwVar 1) (qC (.int 1))) qNil))))) (sIf (qBl (qOp eqD (qwVar 7) (qC (.str "sold")))) (sSeq (sSet (tgName 2) (gOf (qOp ixD (qwVar 1) (qC (.int 1)))))
  (sSet2 4 5 (gOf (qOp ixD (qwVar 1) (qC (.int 2)))))) (sIf (qBl (qOp eqD (qwVar 7) (qC (.str "moved")))) (sSet (tgName 3) (gOf (qOp ixD (qwVar 1) (qC (.int 1))))) (sIf (qBl (qOp eqD (qwVar 7) (qC (.str "followed")))) (sSeq (sSet (tgName 2) (gOf (qOp ixD (qwVar 1) (qC (.int 1)))))
  (sSet (tgName 3) (gOf (qOp ixD (qwVar 1) (qC (.int 2)))))) (sIf (qBl (qOp eqD (qwVar 7) (qC (.str "passed")))) (sSet (tgName 2) (gOf (qOp ixD (qwVar 1) (qC (.int 1))))) (sIf (qBl (qOp eqD (qwVar 7) (qC (.str "died")))) (sSet (tgName 6) (gOf (qC (.bool false)))) sSkip)))))))
  (sRet (qTup (qCons (qVar 2) (qCons (qVar 3) (qCons (qVar 4) (qCons (qVar 5) (qCons (qVar 6) qNil))))))))))
def m_gone_on : Mo → List Dat → Out Dat := mQ 8 b_gone_on
def f_ended_1 : SF :=
  (sSet (tgName 3) (gOf (qCall m_gone_on (qCons (qVar 3) (qCons (qVar 4) qNil)))))
def b_ended : SF :=
  (sSeq (sStar 1 2 (gOf (qVar 0)))
  (sSeq (sSet (tgName 3) (gOf (qCall m_begun (qCons (qVar 1) qNil))))
  (sSeq (sFor (qItems (qVar 2)) (tgName 4) f_ended_1)
  (sRet (qVar 3)))))
def m_ended : Mo → List Dat → Out Dat := mQ 5 b_ended
def f_owner_1 : SF :=
  (sIf (qtOr (qBl (qOp eqD (qOp ixD (qwVar 2) (qC (.int 0))) (qC (.str "sold")))) (qtOr (qBl (qOp eqD (qOp ixD (qwVar 2) (qC (.int 0))) (qC (.str "followed")))) (qBl (qOp eqD (qOp ixD (qwVar 2) (qC (.int 0))) (qC (.str "passed")))))) (sSet (tgName 1) (gOf (qOp ixD (qwVar 2) (qC (.int 1))))) sSkip)
def b_owner : SF :=
  (sSeq (sSet (tgName 1) (gOf (qOp ixD (qOp ixD (qwVar 0) (qC (.int 0))) (qC (.int 1)))))
  (sSeq (sIf (qBl (qOp eqD (qOp ixD (qOp ixD (qwVar 0) (qC (.int 0))) (qC (.int 0))) (qC (.str "born")))) (sSet (tgName 1) (gOf (qOp ixD (qOp ixD (qwVar 0) (qC (.int 0))) (qC (.int 2))))) sSkip)
  (sSeq (sFor (qItems (qVar 0)) (tgName 2) f_owner_1)
  (sRet (qVar 1)))))
def m_owner : Mo → List Dat → Out Dat := mQ 3 b_owner
def f_ground_1 : SF :=
  (sSeq (sIf (qBl (qOp eqD (qOp ixD (qwVar 2) (qC (.int 0))) (qC (.str "moved")))) (sSet (tgName 1) (gOf (qOp ixD (qwVar 2) (qC (.int 1))))) sSkip)
  (sIf (qBl (qOp eqD (qOp ixD (qwVar 2) (qC (.int 0))) (qC (.str "followed")))) (sSet (tgName 1) (gOf (qOp ixD (qwVar 2) (qC (.int 2))))) sSkip))
def b_ground : SF :=
  (sSeq (sSet (tgName 1) (gOf (qOp ixD (qOp ixD (qwVar 0) (qC (.int 0))) (qC (.int 2)))))
  (sSeq (sIf (qBl (qOp eqD (qOp ixD (qOp ixD (qwVar 0) (qC (.int 0))) (qC (.int 0))) (qC (.str "born")))) (sSet (tgName 1) (gOf (qOp ixD (qOp ixD (qwVar 0) (qC (.int 0))) (qC (.int 3))))) sSkip)
  (sSeq (sFor (qItems (qVar 0)) (tgName 2) f_ground_1)
  (sRet (qVar 1)))))
def m_ground : Mo → List Dat → Out Dat := mQ 3 b_ground
def f_due_1 : SF :=
  (sSeq (sIf (qBl (qOp eqD (qOp ixD (qwVar 2) (qC (.int 0))) (qC (.str "cut")))) (sSet (tgName 1) (gOf (qOp ixD (qwVar 2) (qC (.int 1))))) sSkip)
  (sIf (qBl (qOp eqD (qOp ixD (qwVar 2) (qC (.int 0))) (qC (.str "sold")))) (sSet (tgName 1) (gOf (qOp ixD (qwVar 2) (qC (.int 2))))) sSkip))
def b_due : SF :=
  (sSeq (sSet (tgName 1) (gOf (qC .none)))
  (sSeq (sFor (qItems (qVar 0)) (tgName 2) f_due_1)
  (sRet (qVar 1))))
def m_due : Mo → List Dat → Out Dat := mQ 3 b_due
def f_now_1 : SF :=
  (sSeq (sIf (qBl (qOp eqD (qOp ixD (qwVar 2) (qC (.int 0))) (qC (.str "cut")))) (sMut 1 (asListOf (qOp ixD (qwVar 2) (qC (.int 1))))) sSkip)
  (sSeq (sIf (qBl (qOp eqD (qOp ixD (qwVar 2) (qC (.int 0))) (qC (.str "sold")))) (sMut 1 (asListOf (qOp ixD (qwVar 2) (qC (.int 2))))) sSkip)
  (sIf (qBl (qOp eqD (qOp ixD (qwVar 2) (qC (.int 0))) (qC (.str "torn")))) (sSetI 1 (qOp ixD (qwVar 2) (qC (.int 1))) (qOp addD (qOp ixD (qwVar 1) (qOp ixD (qwVar 2) (qC (.int 1)))) (qC (.int 1)))) sSkip)))
def b_now : SF :=
  (sSeq (sMut 1 (asL (qCons (qC (.int 0)) (qCons (qC (.int 0)) (qCons (qC (.int 0)) (qCons (qC (.int 0)) (qCons (qC (.int 0)) (qCons (qC (.int 0)) qNil))))))))
  (sSeq (sIf (qBl (qOp eqD (qOp ixD (qOp ixD (qwVar 0) (qC (.int 0))) (qC (.int 0))) (qC (.str "brought")))) (sMut 1 (asListOf (qOp ixD (qOp ixD (qwVar 0) (qC (.int 0))) (qC (.int 3))))) sSkip)
  (sSeq (sFor (qItems (qVar 0)) (tgName 2) f_now_1)
  (sRet (qUn tupleD (qwVar 1))))))
def m_now : Mo → List Dat → Out Dat := mQ 3 b_now
def b_whole : SF :=
  (sRet (qAndV (qIsi .int (qwVar 0)) (qNotV (qIsi .bool (qwVar 0)))))
def m_whole : Mo → List Dat → Out Dat := mQ 1 b_whole
def f_like_1 (r : Mo → List Dat → Out Dat) : SF :=
  (sIf (qtNot (qTru (qCall r (qCons (qVar 2) (qCons (qVar 3) qNil))))) (sRet (qC (.bool false))) sSkip)
def b_like (r : Mo → List Dat → Out Dat) : SF :=
  (sSeq (sIf (qBl (qIs false .none (qwVar 1))) (sRet (qIs false .none (qwVar 0))) sSkip)
  (sSeq (sIf (qBl (qIs false (.bool true) (qwVar 1))) (sRet (qIs false (.bool true) (qwVar 0))) sSkip)
  (sSeq (sIf (qBl (qIs false (.bool false) (qwVar 1))) (sRet (qIs false (.bool false) (qwVar 0))) sSkip)
  (sSeq (sIf (qTru (qIsi .int (qwVar 1))) (sRet (qAndV (qCall m_whole (qCons (qVar 0) qNil)) (qOp eqD (qwVar 0) (qwVar 1)))) sSkip)
  (sSeq (sIf (qTru (qIsi .str (qwVar 1))) (sRet (qAndV (qIsi .str (qwVar 0)) (qOp eqD (qwVar 0) (qwVar 1)))) sSkip)
  (sSeq (sIf (qtAnd (qTru (qIsi .tuple (qwVar 1))) (qtNot (qTru (qIsi .tuple (qwVar 0))))) (sRet (qC (.bool false))) sSkip)
  (sSeq (sIf (qtAnd (qTru (qIsi .list (qwVar 1))) (qtNot (qTru (qIsi .list (qwVar 0))))) (sRet (qC (.bool false))) sSkip)
  (sSeq (sIf (qBl (qOp neD (qUn lenD (qwVar 0)) (qUn lenD (qwVar 1)))) (sRet (qC (.bool false))) sSkip)
  (sSeq (sFor (qZip (qVar 0) (qVar 1)) (tgTup [2, 3]) (f_like_1 r))
  (sRet (qC (.bool true))))))))))))
def m_like : Nat → Mo → List Dat → Out Dat
  | 0 => fun _ _ => .bad
  | n + 1 => mQ 4 (b_like (m_like n))
def b_law : SF :=
  (sSeq (sSet (tgName 1) (gOf (qCall m_story (qCons (qVar 0) (qCons (qC (.int 0)) qNil)))))
  (sSeq (sSet (tgName 2) (gOf (qUn listD (qwVar 1))))
  (sSeq (sSet (tgName 3) (gOf (qCall m_ended (qCons (qVar 2) qNil))))
  (sSeq (sSet (tgName 4) (gOf (qTup (qCons (qCall m_owner (qCons (qVar 1) qNil)) (qCons (qCall m_ground (qCons (qVar 1) qNil)) (qCons (qCall m_due (qCons (qVar 1) qNil)) (qCons (qCall m_now (qCons (qVar 1) qNil)) (qCons (qOp (inD true) (qTup (qCons (qC (.str "died")) qNil)) (qwVar 1)) qNil))))))))
  (sRet (qAndV (qCall (m_like 10) (qCons (qVar 3) (qCons (qVar 4) qNil))) (qOp eqD (qwVar 2) (qwVar 1))))))))
def m_law : Mo → List Dat → Out Dat := mQ 5 b_law
def topS (i : Nat) : Stmt := PySem.Challenge.pw_earmarks_k26_stories_end.main.body.getD i (.Pass ⟨0, 0, 0, 0⟩)
abbrev s_cell : Stmt := topS 7
abbrev s_row : Stmt := topS 8
abbrev s_ear_by : Stmt := topS 9
abbrev s_ear : Stmt := topS 10
abbrev s_story : Stmt := topS 11
abbrev s_begun : Stmt := topS 2
abbrev s_deepened : Stmt := topS 4
abbrev s_gone_on : Stmt := topS 3
abbrev s_ended : Stmt := topS 5
abbrev s_owner : Stmt := topS 14
abbrev s_ground : Stmt := topS 15
abbrev s_due : Stmt := topS 16
abbrev s_now : Stmt := topS 17
abbrev s_whole : Stmt := topS 12
abbrev s_like : Stmt := topS 13
abbrev s_law : Stmt := topS 18
theorem sc_cell : FnScope ["_law_script", "_law_k"] ["_law_script", "_law_k"] (defScope s_cell) := ⟨rfl, rfl, rfl, by decide +kernel, rfl, by decide +kernel, by decide +kernel⟩
theorem sc_row : FnScope ["_law_cell_here", "_law_many", "_law_base", "_law_found", "_law_k", "_law_turn"] ["_law_cell_here", "_law_many", "_law_base"] (defScope s_row) := ⟨rfl, rfl, rfl, by decide +kernel, rfl, by decide +kernel, by decide +kernel⟩
theorem sc_ear_by : FnScope ["_law_figures", "_law_mode", "_law_figure"] ["_law_figures", "_law_mode"] (defScope s_ear_by) := ⟨rfl, rfl, rfl, by decide +kernel, rfl, by decide +kernel, by decide +kernel⟩
theorem sc_ear : FnScope ["_law_cell_here", "_law_figures"] ["_law_cell_here"] (defScope s_ear) := ⟨rfl, rfl, rfl, by decide +kernel, rfl, by decide +kernel, by decide +kernel⟩
theorem sc_story : FnScope ["_law_script", "_law_start", "_law_cell_here", "_law_first", "_law_story_here", "_law_parts", "_law_ear_here", "_law_owner_here", "_law_ground_here", "_law_some"] ["_law_script", "_law_start"] (defScope s_story) := ⟨rfl, rfl, rfl, by decide +kernel, rfl, by decide +kernel, by decide +kernel⟩
theorem sc_begun : FnScope ["first", "word", "mother", "owner", "ground", "ear"] ["first"] (defScope s_begun) := ⟨rfl, rfl, rfl, by decide +kernel, rfl, by decide +kernel, by decide +kernel⟩
theorem sc_deepened : FnScope ["ear", "place", "at", "depth"] ["ear", "place"] (defScope s_deepened) := ⟨rfl, rfl, rfl, by decide +kernel, rfl, by decide +kernel, by decide +kernel⟩
theorem sc_gone_on : FnScope ["stand", "event", "owner", "ground", "due", "ear", "alive", "word"] ["stand", "event"] (defScope s_gone_on) := ⟨rfl, rfl, rfl, by decide +kernel, rfl, by decide +kernel, by decide +kernel⟩
theorem sc_ended : FnScope ["story", "first", "later", "stand", "event"] ["story"] (defScope s_ended) := ⟨rfl, rfl, rfl, by decide +kernel, rfl, by decide +kernel, by decide +kernel⟩
theorem sc_owner : FnScope ["_law_story_here", "_law_found", "_law_entry"] ["_law_story_here"] (defScope s_owner) := ⟨rfl, rfl, rfl, by decide +kernel, rfl, by decide +kernel, by decide +kernel⟩
theorem sc_ground : FnScope ["_law_story_here", "_law_found", "_law_entry"] ["_law_story_here"] (defScope s_ground) := ⟨rfl, rfl, rfl, by decide +kernel, rfl, by decide +kernel, by decide +kernel⟩
theorem sc_due : FnScope ["_law_story_here", "_law_found", "_law_entry"] ["_law_story_here"] (defScope s_due) := ⟨rfl, rfl, rfl, by decide +kernel, rfl, by decide +kernel, by decide +kernel⟩
theorem sc_now : FnScope ["_law_story_here", "_law_found", "_law_entry"] ["_law_story_here"] (defScope s_now) := ⟨rfl, rfl, rfl, by decide +kernel, rfl, by decide +kernel, by decide +kernel⟩
theorem sc_whole : FnScope ["_law_found"] ["_law_found"] (defScope s_whole) := ⟨rfl, rfl, rfl, by decide +kernel, rfl, by decide +kernel, by decide +kernel⟩
theorem sc_like : FnScope ["_law_found", "_law_due_here", "_law_one", "_law_other"] ["_law_found", "_law_due_here"] (defScope s_like) := ⟨rfl, rfl, rfl, by decide +kernel, rfl, by decide +kernel, by decide +kernel⟩
theorem sc_law : FnScope ["_law_script", "_law_story_here", "_law_handed", "_law_found", "_law_due_here"] ["_law_script"] (defScope s_law) := ⟨rfl, rfl, rfl, by decide +kernel, rfl, by decide +kernel, by decide +kernel⟩
theorem t_cell : rd ⟨["_law_script", "_law_k"], defScope s_cell, [], ["len"], [], [], true⟩ (defBody s_cell) = some b_cell := by kernel_rfl
theorem t_row : rd ⟨["_law_cell_here", "_law_many", "_law_base", "_law_found", "_law_k", "_law_turn"], defScope s_row, [], ["range", "abs"], [], ["_law_found"], true⟩ (defBody s_row) = some b_row := by kernel_rfl
theorem t_ear_by : rd ⟨["_law_figures", "_law_mode", "_law_figure"], defScope s_ear_by, [], ["tuple", "max"], [], [], true⟩ (defBody s_ear_by) = some b_ear_by := by kernel_rfl
theorem t_ear : rd ⟨["_law_cell_here", "_law_figures"], defScope s_ear, [("_law_ear_by", .fq 2 m_ear_by), ("_law_row", .fq 3 m_row)], [], [], [], true⟩ (defBody s_ear) = some b_ear := by kernel_rfl
theorem t_story : rd ⟨["_law_script", "_law_start", "_law_cell_here", "_law_first", "_law_story_here", "_law_parts", "_law_ear_here", "_law_owner_here", "_law_ground_here", "_law_some"], defScope s_story, [("_law_row", .fq 3 m_row), ("_law_ear", .fq 1 m_ear), ("_law_cell", .fq 2 m_cell)], ["tuple"], [], ["_law_story_here"], true⟩ (defBody s_story) = some b_story := by kernel_rfl
theorem t_begun : rd ⟨["first", "word", "mother", "owner", "ground", "ear"], defScope s_begun, [("BARE_EAR", .con k_BARE_EAR)], [], [], [], true⟩ (defBody s_begun) = some b_begun := by kernel_rfl
theorem t_deepened : rd ⟨["ear", "place", "at", "depth"], defScope s_deepened, [], ["tuple", "enumerate"], [], [], true⟩ (defBody s_deepened) = some b_deepened := by kernel_rfl
theorem t_gone_on : rd ⟨["stand", "event", "owner", "ground", "due", "ear", "alive", "word"], defScope s_gone_on, [("deepened", .fq 2 m_deepened)], [], [], [], true⟩ (defBody s_gone_on) = some b_gone_on := by kernel_rfl
theorem t_ended : rd ⟨["story", "first", "later", "stand", "event"], defScope s_ended, [("gone_on", .fq 2 m_gone_on), ("begun", .fq 1 m_begun)], [], [], [], true⟩ (defBody s_ended) = some b_ended := by kernel_rfl
theorem t_owner : rd ⟨["_law_story_here", "_law_found", "_law_entry"], defScope s_owner, [], [], [], [], true⟩ (defBody s_owner) = some b_owner := by kernel_rfl
theorem t_ground : rd ⟨["_law_story_here", "_law_found", "_law_entry"], defScope s_ground, [], [], [], [], true⟩ (defBody s_ground) = some b_ground := by kernel_rfl
theorem t_due : rd ⟨["_law_story_here", "_law_found", "_law_entry"], defScope s_due, [], [], [], [], true⟩ (defBody s_due) = some b_due := by kernel_rfl
theorem t_now : rd ⟨["_law_story_here", "_law_found", "_law_entry"], defScope s_now, [], ["tuple", "list"], [], ["_law_found"], true⟩ (defBody s_now) = some b_now := by kernel_rfl
theorem t_whole : rd ⟨["_law_found"], defScope s_whole, [], ["isinstance", "bool", "int"], [], [], true⟩ (defBody s_whole) = some b_whole := by kernel_rfl
theorem t_like (r : Mo → List Dat → Out Dat) : rd ⟨["_law_found", "_law_due_here", "_law_one", "_law_other"], defScope s_like, [("_law_like", .fq 2 r), ("_law_whole", .fq 1 m_whole)], ["zip", "len", "isinstance", "list", "tuple", "str", "int"], [], [], true⟩ (defBody s_like) = some (b_like r) := by kernel_rfl
theorem t_law : rd ⟨["_law_script", "_law_story_here", "_law_handed", "_law_found", "_law_due_here"], defScope s_law, [("_law_like", .fq 2 (m_like 10)), ("_law_now", .fq 1 m_now), ("_law_due", .fq 1 m_due), ("_law_ground", .fq 1 m_ground), ("_law_owner", .fq 1 m_owner), ("ended", .fq 1 m_ended), ("_law_story", .fq 2 m_story)], ["list"], [], [], true⟩ (defBody s_law) = some b_law := by kernel_rfl
def nm0 : List PySem.Str := ["BARE_EAR", "begun", "gone_on", "deepened", "ended", "_law_cell", "_law_row", "_law_ear_by", "_law_ear", "_law_story", "_law_whole", "_law_like"]
def nm1 : List PySem.Str := ["_law_owner", "_law_ground", "_law_due", "_law_now"]
def nm : List PySem.Str := nm0 ++ nm1

def fa0 : List He.Fa := [.glo "_law_cell", .glo "_law_row", .glo "_law_ear_by", .glo "_law_ear", .glo "_law_story", .glo "begun", .glo "deepened", .glo "gone_on", .glo "ended", .glo "_law_owner", .glo "_law_ground", .glo "_law_due"]
def fa1 : List He.Fa := [.glo "_law_now", .glo "_law_whole", .glo "_law_like", .glo "law", .glo "BARE_EAR", .free "len", .free "range", .free "abs", .free "tuple", .free "max", .free "enumerate", .free "list"]
def fa2 : List He.Fa := [.free "isinstance", .free "bool", .free "int", .free "zip", .free "str"]
def fa : List He.Fa := fa0 ++ fa1 ++ fa2

def fn0 : List He.DefD := [⟨("_law_cell", none), "_law_cell", "_law_cell", defArgs s_cell, defBody s_cell, defScope s_cell, [], []⟩, ⟨("_law_row", none), "_law_row", "_law_row", defArgs s_row, defBody s_row, defScope s_row, [], []⟩, ⟨("_law_ear_by", none), "_law_ear_by", "_law_ear_by", defArgs s_ear_by, defBody s_ear_by, defScope s_ear_by, [], []⟩, ⟨("_law_ear", none), "_law_ear", "_law_ear", defArgs s_ear, defBody s_ear, defScope s_ear, [], []⟩, ⟨("_law_story", none), "_law_story", "_law_story", defArgs s_story, defBody s_story, defScope s_story, [], []⟩, ⟨("begun", none), "begun", "begun", defArgs s_begun, defBody s_begun, defScope s_begun, [], []⟩, ⟨("deepened", none), "deepened", "deepened", defArgs s_deepened, defBody s_deepened, defScope s_deepened, [], []⟩, ⟨("gone_on", none), "gone_on", "gone_on", defArgs s_gone_on, defBody s_gone_on, defScope s_gone_on, [], []⟩, ⟨("ended", none), "ended", "ended", defArgs s_ended, defBody s_ended, defScope s_ended, [], []⟩, ⟨("_law_owner", none), "_law_owner", "_law_owner", defArgs s_owner, defBody s_owner, defScope s_owner, [], []⟩, ⟨("_law_ground", none), "_law_ground", "_law_ground", defArgs s_ground, defBody s_ground, defScope s_ground, [], []⟩, ⟨("_law_due", none), "_law_due", "_law_due", defArgs s_due, defBody s_due, defScope s_due, [], []⟩]
def fn1 : List He.DefD := [⟨("_law_now", none), "_law_now", "_law_now", defArgs s_now, defBody s_now, defScope s_now, [], []⟩, ⟨("_law_whole", none), "_law_whole", "_law_whole", defArgs s_whole, defBody s_whole, defScope s_whole, [], []⟩, ⟨("_law_like", none), "_law_like", "_law_like", defArgs s_like, defBody s_like, defScope s_like, [], []⟩, ⟨("law", none), "law", "law", defArgs s_law, defBody s_law, defScope s_law, [], []⟩]
def fn : List He.DefD := fn0 ++ fn1

def exB (K : PySem.W.Frag) : Bool := true && He.tupB K "BARE_EAR" [.int 0, .int 0, .int 0, .int 0, .int 0, .int 0]
structure Top (w : World) (K : PySem.W.Frag) (mg : Str → Option Value) : Prop where
  ex : ∃ h : Heap, K.In h ∧ h.Ns mainGlobals mg
  c : SaysL fa fn [] exB w K
def cad (w : World) (K : PySem.W.Frag) : Cad := ⟨fun _ => none, fun _ => [], w⟩
section
variable {P : Program} {w : World} {K : PySem.W.Frag} {mg : Str → Option Value} {base : Heap} {k : Nat}
theorem Top.glo (T : Top w K mg) (i : Nat) {x : Str} (h : fa[i]? = some (.glo x) := by rfl) : mg x = some (.ref (He.ga K x)) := by
  obtain ⟨_, X, G⟩ := T.ex
  exact He.glo_ok X G (T.c.fa_ i h)
theorem Top.free (T : Top w K mg) (i : Nat) {x : Str} (h : fa[i]? = some (.free x) := by rfl) : mg x = none := by
  obtain ⟨_, X, G⟩ := T.ex
  exact He.free_ok X G (T.c.fa_ i h)
theorem Top.int (T : Top w K mg) (i : Nat) {x : Str} {j : Int} (h : fa[i]? = some (.int x j) := by rfl) : ∃ t, mg x = some (.int j t) := by
  obtain ⟨_, X, G⟩ := T.ex
  exact He.int_ok X G (T.c.fa_ i h)
theorem Top.str (T : Top w K mg) (i : Nat) {x j : Str} (h : fa[i]? = some (.str x j) := by rfl) : ∃ t, mg x = some (.str j t) := by
  obtain ⟨_, X, G⟩ := T.ex
  exact He.str_ok X G (T.c.fa_ i h)
theorem v_BARE_EAR (T : Top w K mg) : GVok P w K mg base (cad w K) k "BARE_EAR" (.con k_BARE_EAR) := gv_tup (T.glo 16) (fun H => He.tupB_ok (He.ba T.c.more).2 H) rfl rfl
theorem l_cell (T : Top w K mg) {fd : FuncData} (F : FunD K "_law_cell" "_law_cell" (defArgs s_cell) (defBody s_cell) (defScope s_cell) [] [] (He.ga K "_law_cell") fd) : FnOk P w K mg base (L2.CX P w) 1 (He.ga K "_law_cell") fd ["_law_script", "_law_k"] (spQ K (cad w K) 2 m_cell) := by
  refine ok_rdQ (k := 0) (fun_D F) sc_cell ?_ ?_ t_cell
  · exact trivial
  · exact ⟨T.free 17, trivial⟩
theorem v_cell (T : Top w K mg) (hk : 1 ≤ k) : GVok P w K mg base (cad w K) k "_law_cell" (.fq 2 m_cell) := by
  obtain ⟨fd, F⟩ := T.c.fn_ 0
  have b := FunD.bindsN (ps := ["_law_script", "_law_k"]) F fun _ _ _ _ _ _ us hl => match us, hl with | [_, _], _ => rfl
  exact gv_q hk (T.glo 0) F.kp b (l_cell T F)
theorem l_row (T : Top w K mg) {fd : FuncData} (F : FunD K "_law_row" "_law_row" (defArgs s_row) (defBody s_row) (defScope s_row) [] [] (He.ga K "_law_row") fd) : FnOk P w K mg base (L2.CX P w) 1 (He.ga K "_law_row") fd ["_law_cell_here", "_law_many", "_law_base"] (spQ K (cad w K) 3 m_row) := by
  refine ok_rdQ (k := 0) (fun_D F) sc_row ?_ ?_ t_row
  · exact trivial
  · exact ⟨T.free 18, T.free 19, trivial⟩
theorem v_row (T : Top w K mg) (hk : 1 ≤ k) : GVok P w K mg base (cad w K) k "_law_row" (.fq 3 m_row) := by
  obtain ⟨fd, F⟩ := T.c.fn_ 1
  have b := FunD.bindsN (ps := ["_law_cell_here", "_law_many", "_law_base"]) F fun _ _ _ _ _ _ us hl => match us, hl with | [_, _, _], _ => rfl
  exact gv_q hk (T.glo 1) F.kp b (l_row T F)
theorem l_ear_by (T : Top w K mg) {fd : FuncData} (F : FunD K "_law_ear_by" "_law_ear_by" (defArgs s_ear_by) (defBody s_ear_by) (defScope s_ear_by) [] [] (He.ga K "_law_ear_by") fd) : FnOk P w K mg base (L2.CX P w) 1 (He.ga K "_law_ear_by") fd ["_law_figures", "_law_mode"] (spQ K (cad w K) 2 m_ear_by) := by
  refine ok_rdQ (k := 0) (fun_D F) sc_ear_by ?_ ?_ t_ear_by
  · exact trivial
  · exact ⟨T.free 20, T.free 21, trivial⟩
theorem v_ear_by (T : Top w K mg) (hk : 1 ≤ k) : GVok P w K mg base (cad w K) k "_law_ear_by" (.fq 2 m_ear_by) := by
  obtain ⟨fd, F⟩ := T.c.fn_ 2
  have b := FunD.bindsN (ps := ["_law_figures", "_law_mode"]) F fun _ _ _ _ _ _ us hl => match us, hl with | [_, _], _ => rfl
  exact gv_q hk (T.glo 2) F.kp b (l_ear_by T F)
theorem l_ear (T : Top w K mg) {fd : FuncData} (F : FunD K "_law_ear" "_law_ear" (defArgs s_ear) (defBody s_ear) (defScope s_ear) [] [] (He.ga K "_law_ear") fd) : FnOk P w K mg base (L2.CX P w) 2 (He.ga K "_law_ear") fd ["_law_cell_here"] (spQ K (cad w K) 1 m_ear) := by
  refine ok_rdQ (k := 1) (fun_D F) sc_ear ?_ ?_ t_ear
  · exact ⟨v_ear_by T (by omega), v_row T (by omega), trivial⟩
  · exact trivial
theorem v_ear (T : Top w K mg) (hk : 2 ≤ k) : GVok P w K mg base (cad w K) k "_law_ear" (.fq 1 m_ear) := by
  obtain ⟨fd, F⟩ := T.c.fn_ 3
  have b := FunD.bindsN (ps := ["_law_cell_here"]) F fun _ _ _ _ _ _ us hl => match us, hl with | [_], _ => rfl
  exact gv_q hk (T.glo 3) F.kp b (l_ear T F)
theorem l_story (T : Top w K mg) {fd : FuncData} (F : FunD K "_law_story" "_law_story" (defArgs s_story) (defBody s_story) (defScope s_story) [] [] (He.ga K "_law_story") fd) : FnOk P w K mg base (L2.CX P w) 3 (He.ga K "_law_story") fd ["_law_script", "_law_start"] (spQ K (cad w K) 2 m_story) := by
  refine ok_rdQ (k := 2) (fun_D F) sc_story ?_ ?_ t_story
  · exact ⟨v_row T (by omega), v_ear T (by omega), v_cell T (by omega), trivial⟩
  · exact ⟨T.free 20, trivial⟩
theorem v_story (T : Top w K mg) (hk : 3 ≤ k) : GVok P w K mg base (cad w K) k "_law_story" (.fq 2 m_story) := by
  obtain ⟨fd, F⟩ := T.c.fn_ 4
  have b := FunD.bindsN (ps := ["_law_script", "_law_start"]) F fun _ _ _ _ _ _ us hl => match us, hl with | [_, _], _ => rfl
  exact gv_q hk (T.glo 4) F.kp b (l_story T F)
theorem l_begun (T : Top w K mg) {fd : FuncData} (F : FunD K "begun" "begun" (defArgs s_begun) (defBody s_begun) (defScope s_begun) [] [] (He.ga K "begun") fd) : FnOk P w K mg base (L2.CX P w) 1 (He.ga K "begun") fd ["first"] (spQ K (cad w K) 1 m_begun) := by
  refine ok_rdQ (k := 0) (fun_D F) sc_begun ?_ ?_ t_begun
  · exact ⟨v_BARE_EAR T, trivial⟩
  · exact trivial
theorem v_begun (T : Top w K mg) (hk : 1 ≤ k) : GVok P w K mg base (cad w K) k "begun" (.fq 1 m_begun) := by
  obtain ⟨fd, F⟩ := T.c.fn_ 5
  have b := FunD.bindsN (ps := ["first"]) F fun _ _ _ _ _ _ us hl => match us, hl with | [_], _ => rfl
  exact gv_q hk (T.glo 5) F.kp b (l_begun T F)
theorem l_deepened (T : Top w K mg) {fd : FuncData} (F : FunD K "deepened" "deepened" (defArgs s_deepened) (defBody s_deepened) (defScope s_deepened) [] [] (He.ga K "deepened") fd) : FnOk P w K mg base (L2.CX P w) 1 (He.ga K "deepened") fd ["ear", "place"] (spQ K (cad w K) 2 m_deepened) := by
  refine ok_rdQ (k := 0) (fun_D F) sc_deepened ?_ ?_ t_deepened
  · exact trivial
  · exact ⟨T.free 20, T.free 22, trivial⟩
theorem v_deepened (T : Top w K mg) (hk : 1 ≤ k) : GVok P w K mg base (cad w K) k "deepened" (.fq 2 m_deepened) := by
  obtain ⟨fd, F⟩ := T.c.fn_ 6
  have b := FunD.bindsN (ps := ["ear", "place"]) F fun _ _ _ _ _ _ us hl => match us, hl with | [_, _], _ => rfl
  exact gv_q hk (T.glo 6) F.kp b (l_deepened T F)
theorem l_gone_on (T : Top w K mg) {fd : FuncData} (F : FunD K "gone_on" "gone_on" (defArgs s_gone_on) (defBody s_gone_on) (defScope s_gone_on) [] [] (He.ga K "gone_on") fd) : FnOk P w K mg base (L2.CX P w) 2 (He.ga K "gone_on") fd ["stand", "event"] (spQ K (cad w K) 2 m_gone_on) := by
  refine ok_rdQ (k := 1) (fun_D F) sc_gone_on ?_ ?_ t_gone_on
  · exact ⟨v_deepened T (by omega), trivial⟩
  · exact trivial
theorem v_gone_on (T : Top w K mg) (hk : 2 ≤ k) : GVok P w K mg base (cad w K) k "gone_on" (.fq 2 m_gone_on) := by
  obtain ⟨fd, F⟩ := T.c.fn_ 7
  have b := FunD.bindsN (ps := ["stand", "event"]) F fun _ _ _ _ _ _ us hl => match us, hl with | [_, _], _ => rfl
  exact gv_q hk (T.glo 7) F.kp b (l_gone_on T F)
theorem l_ended (T : Top w K mg) {fd : FuncData} (F : FunD K "ended" "ended" (defArgs s_ended) (defBody s_ended) (defScope s_ended) [] [] (He.ga K "ended") fd) : FnOk P w K mg base (L2.CX P w) 3 (He.ga K "ended") fd ["story"] (spQ K (cad w K) 1 m_ended) := by
  refine ok_rdQ (k := 2) (fun_D F) sc_ended ?_ ?_ t_ended
  · exact ⟨v_gone_on T (by omega), v_begun T (by omega), trivial⟩
  · exact trivial
theorem v_ended (T : Top w K mg) (hk : 3 ≤ k) : GVok P w K mg base (cad w K) k "ended" (.fq 1 m_ended) := by
  obtain ⟨fd, F⟩ := T.c.fn_ 8
  have b := FunD.bindsN (ps := ["story"]) F fun _ _ _ _ _ _ us hl => match us, hl with | [_], _ => rfl
  exact gv_q hk (T.glo 8) F.kp b (l_ended T F)
theorem l_owner (T : Top w K mg) {fd : FuncData} (F : FunD K "_law_owner" "_law_owner" (defArgs s_owner) (defBody s_owner) (defScope s_owner) [] [] (He.ga K "_law_owner") fd) : FnOk P w K mg base (L2.CX P w) 1 (He.ga K "_law_owner") fd ["_law_story_here"] (spQ K (cad w K) 1 m_owner) := by
  refine ok_rdQ (k := 0) (fun_D F) sc_owner ?_ ?_ t_owner
  · exact trivial
  · exact trivial
theorem v_owner (T : Top w K mg) (hk : 1 ≤ k) : GVok P w K mg base (cad w K) k "_law_owner" (.fq 1 m_owner) := by
  obtain ⟨fd, F⟩ := T.c.fn_ 9
  have b := FunD.bindsN (ps := ["_law_story_here"]) F fun _ _ _ _ _ _ us hl => match us, hl with | [_], _ => rfl
  exact gv_q hk (T.glo 9) F.kp b (l_owner T F)
theorem l_ground (T : Top w K mg) {fd : FuncData} (F : FunD K "_law_ground" "_law_ground" (defArgs s_ground) (defBody s_ground) (defScope s_ground) [] [] (He.ga K "_law_ground") fd) : FnOk P w K mg base (L2.CX P w) 1 (He.ga K "_law_ground") fd ["_law_story_here"] (spQ K (cad w K) 1 m_ground) := by
  refine ok_rdQ (k := 0) (fun_D F) sc_ground ?_ ?_ t_ground
  · exact trivial
  · exact trivial
theorem v_ground (T : Top w K mg) (hk : 1 ≤ k) : GVok P w K mg base (cad w K) k "_law_ground" (.fq 1 m_ground) := by
  obtain ⟨fd, F⟩ := T.c.fn_ 10
  have b := FunD.bindsN (ps := ["_law_story_here"]) F fun _ _ _ _ _ _ us hl => match us, hl with | [_], _ => rfl
  exact gv_q hk (T.glo 10) F.kp b (l_ground T F)
theorem l_due (T : Top w K mg) {fd : FuncData} (F : FunD K "_law_due" "_law_due" (defArgs s_due) (defBody s_due) (defScope s_due) [] [] (He.ga K "_law_due") fd) : FnOk P w K mg base (L2.CX P w) 1 (He.ga K "_law_due") fd ["_law_story_here"] (spQ K (cad w K) 1 m_due) := by
  refine ok_rdQ (k := 0) (fun_D F) sc_due ?_ ?_ t_due
  · exact trivial
  · exact trivial
theorem v_due (T : Top w K mg) (hk : 1 ≤ k) : GVok P w K mg base (cad w K) k "_law_due" (.fq 1 m_due) := by
  obtain ⟨fd, F⟩ := T.c.fn_ 11
  have b := FunD.bindsN (ps := ["_law_story_here"]) F fun _ _ _ _ _ _ us hl => match us, hl with | [_], _ => rfl
  exact gv_q hk (T.glo 11) F.kp b (l_due T F)
theorem l_now (T : Top w K mg) {fd : FuncData} (F : FunD K "_law_now" "_law_now" (defArgs s_now) (defBody s_now) (defScope s_now) [] [] (He.ga K "_law_now") fd) : FnOk P w K mg base (L2.CX P w) 1 (He.ga K "_law_now") fd ["_law_story_here"] (spQ K (cad w K) 1 m_now) := by
  refine ok_rdQ (k := 0) (fun_D F) sc_now ?_ ?_ t_now
  · exact trivial
  · exact ⟨T.free 20, T.free 23, trivial⟩
theorem v_now (T : Top w K mg) (hk : 1 ≤ k) : GVok P w K mg base (cad w K) k "_law_now" (.fq 1 m_now) := by
  obtain ⟨fd, F⟩ := T.c.fn_ 12
  have b := FunD.bindsN (ps := ["_law_story_here"]) F fun _ _ _ _ _ _ us hl => match us, hl with | [_], _ => rfl
  exact gv_q hk (T.glo 12) F.kp b (l_now T F)
theorem l_whole (T : Top w K mg) {fd : FuncData} (F : FunD K "_law_whole" "_law_whole" (defArgs s_whole) (defBody s_whole) (defScope s_whole) [] [] (He.ga K "_law_whole") fd) : FnOk P w K mg base (L2.CX P w) 1 (He.ga K "_law_whole") fd ["_law_found"] (spQ K (cad w K) 1 m_whole) := by
  refine ok_rdQ (k := 0) (fun_D F) sc_whole ?_ ?_ t_whole
  · exact trivial
  · exact ⟨T.free 24, T.free 25, T.free 26, trivial⟩
theorem v_whole (T : Top w K mg) (hk : 1 ≤ k) : GVok P w K mg base (cad w K) k "_law_whole" (.fq 1 m_whole) := by
  obtain ⟨fd, F⟩ := T.c.fn_ 13
  have b := FunD.bindsN (ps := ["_law_found"]) F fun _ _ _ _ _ _ us hl => match us, hl with | [_], _ => rfl
  exact gv_q hk (T.glo 13) F.kp b (l_whole T F)
theorem v_like (T : Top w K mg) (hk : 12 ≤ k) : GVok P w K mg base (cad w K) k "_law_like" (.fq 2 (m_like 10)) := by
  obtain ⟨fd, F⟩ := T.c.fn_ 14
  have b := FunD.bindsN (ps := ["_law_found", "_law_due_here"]) F fun _ _ _ _ _ _ us hl => match us, hl with | [_, _], _ => rfl
  have key : ∀ j : Nat, FnOk P w K mg base (L2.CX P w) (2 + j) (He.ga K "_law_like") fd ["_law_found", "_law_due_here"] (spQ K (cad w K) 2 (m_like j)) := by
    intro j
    induction j with
    | zero => exact fn_bad
    | succ j ih' =>
      have ih : ∀ {k : Nat}, 2 + j ≤ k → GVok P w K mg base (cad w K) k "_law_like" (.fq 2 (m_like j)) := fun hk => gv_q hk (T.glo 14) F.kp (b) ih'
      refine ok_rdQ (k := 2 + j) (fun_D F) sc_like ?_ ?_ (t_like (m_like j))
      · exact ⟨ih (Nat.le_refl _), v_whole T (by omega), trivial⟩
      · exact ⟨T.free 27, T.free 17, T.free 24, T.free 23, T.free 20, T.free 28, T.free 26, trivial⟩
  exact gv_q hk (T.glo 14) F.kp (b) (key 10)
theorem l_law (T : Top w K mg) {fd : FuncData} (F : FunD K "law" "law" (defArgs s_law) (defBody s_law) (defScope s_law) [] [] (He.ga K "law") fd) : FnOk P w K mg base (L2.CX P w) 13 (He.ga K "law") fd ["_law_script"] (spQ K (cad w K) 1 m_law) := by
  refine ok_rdQ (k := 12) (fun_D F) sc_law ?_ ?_ t_law
  · exact ⟨v_like T (by omega), v_now T (by omega), v_due T (by omega), v_ground T (by omega), v_owner T (by omega), v_ended T (by omega), v_story T (by omega), trivial⟩
  · exact ⟨T.free 23, trivial⟩
theorem v_law (T : Top w K mg) (hk : 13 ≤ k) : GVok P w K mg base (cad w K) k "law" (.fq 1 m_law) := by
  obtain ⟨fd, F⟩ := T.c.fn_ 15
  have b := FunD.bindsN (ps := ["_law_script"]) F fun _ _ _ _ _ _ us hl => match us, hl with | [_], _ => rfl
  exact gv_q hk (T.glo 15) F.kp b (l_law T F)
end
/-! ### cells, rows, ears that a script draws -/
def digs (b : Int) : Nat → Int → List Int
  | 0, _ => []
  | n + 1, c => c % b :: digs b n (c / b)
def lcg (b : Int) : Nat → Int → Int → List Int
  | 0, _, _ => []
  | n + 1, k, t => ((t * 48271 + 9973 * k + 11) % 2147483647 / 1021 % b) :: lcg b n (k + 1) ((t * 48271 + 9973 * k + 11) % 2147483647)
def absI (c : Int) : Int := if c < 0 then -c else c
def rowOf (c : Int) (n : Nat) (b : Int) : List Int := if 10 ^ 18 ≤ absI c then digs b n (absI c) else lcg b n 0 ((absI c % 1000003 + 17) * 69621 % 2147483647)
theorem digs_len (b : Int) : ∀ n c, (digs b n c).length = n
  | 0, _ => rfl
  | n + 1, c => by simp [digs, digs_len b n]
theorem lcg_len (b : Int) : ∀ n k t, (lcg b n k t).length = n
  | 0, _, _ => rfl
  | n + 1, k, t => by simp [lcg, lcg_len b n]
theorem digs_in {b : Int} (hb : 0 < b) : ∀ n c, ∀ x ∈ digs b n c, 0 ≤ x ∧ x < b
  | 0, _, x, h => by simp [digs] at h
  | n + 1, c, x, h => by
    rcases List.mem_cons.mp h with rfl | h
    · exact ⟨Int.emod_nonneg _ (by omega), Int.emod_lt_of_pos _ hb⟩
    · exact digs_in hb n _ x h
theorem lcg_in {b : Int} (hb : 0 < b) : ∀ n k t, ∀ x ∈ lcg b n k t, 0 ≤ x ∧ x < b
  | 0, _, _, x, h => by simp [lcg] at h
  | n + 1, k, t, x, h => by
    rcases List.mem_cons.mp h with rfl | h
    · exact ⟨Int.emod_nonneg _ (by omega), Int.emod_lt_of_pos _ hb⟩
    · exact lcg_in hb n _ _ x h
@[simp] theorem row_len (c : Int) (n : Nat) (b : Int) : (rowOf c n b).length = n := by
  unfold rowOf
  split
  · exact digs_len ..
  · exact lcg_len ..
theorem row_in {b : Int} (hb : 0 < b) (c : Int) (n : Nat) : ∀ x ∈ rowOf c n b, 0 ≤ x ∧ x < b := by
  unfold rowOf
  split
  · exact digs_in hb _ _
  · exact lcg_in hb _ _ _
@[simp] theorem cell_ok (M : Mo) (ns : List Int) (k : Nat) : m_cell M [lI ns, .int k] = .ok (.int (ns.getD k 0)) := by
  unfold m_cell b_cell
  by_cases h : k < ns.length
  · simp [h, atI, ixN]
  · simp [h]
theorem row_digs (M : Mo) (b : Int) (hb : 0 < b) (hb2 : b < 1073741824) : ∀ (n k : Nat) (c : Int) (x1 : Option Cell) (acc : List Dat) (x4 x5 : Option Cell), acc.length + n < 100000 → ∃ c' x4', forD (tgName 4) f_row_1 ((List.range' k n).map fun (i : Nat) => PyData.int (i : Int)) M [some (.dat (.int c)), x1, some (.dat (.int b)), some (.mut acc), x4, x5] = .next [c', x1, some (.dat (.int b)), some (.mut (acc ++ (digs b n c).map .int)), x4', x5] M
  | 0, k, c, x1, acc, x4, x5, _ => ⟨some (.dat (.int c)), x4, by simp [forD, digs]⟩
  | n + 1, k, c, x1, acc, x4, x5, hl => by
    obtain ⟨c', x4', ih⟩ := row_digs M b hb hb2 n (k + 1) (c / b) x1 (acc ++ [.int (c % b)]) (some (.dat (.int k))) x5 (by simp; omega)
    refine ⟨c', x4', ?_⟩
    have h1 : decide (CDiv c b) = true := decide_eq_true ⟨hb, hb2⟩
    have hl : acc.length < 100000 := by omega
    rw [List.range'_succ, List.map_cons, forD_next (ρ1 := [some (.dat (.int c)), x1, some (.dat (.int b)), some (.mut acc), some (.dat (.int k)), x5]) (by simp) (ρ2 := [some (.dat (.int (c / b))), x1, some (.dat (.int b)), some (.mut (acc ++ [.int (c % b)])), some (.dat (.int k)), x5]) (M2 := M) (by simp [f_row_1, h1, hb, hl])]
    rw [ih]
    simp [digs]
theorem row_lcg (M : Mo) (b : Int) (hb : 0 < b) : ∀ (n k : Nat) (t : Int) (x0 x1 : Option Cell) (acc : List Dat) (x4 : Option Cell), acc.length + n < 100000 → ∃ x4' x5', forD (tgName 4) f_row_2 ((List.range' k n).map fun (i : Nat) => PyData.int (i : Int)) M [x0, x1, some (.dat (.int b)), some (.mut acc), x4, some (.dat (.int t))] = .next [x0, x1, some (.dat (.int b)), some (.mut (acc ++ (lcg b n k t).map .int)), x4', x5'] M
  | 0, k, t, x0, x1, acc, x4, _ => ⟨x4, some (.dat (.int t)), by simp [forD, lcg]⟩
  | n + 1, k, t, x0, x1, acc, x4, hl => by
    obtain ⟨x4', x5', ih⟩ := row_lcg M b hb n (k + 1) ((t * 48271 + 9973 * k + 11) % 2147483647) x0 x1 (acc ++ [.int ((t * 48271 + 9973 * k + 11) % 2147483647 / 1021 % b)]) (some (.dat (.int k))) (by simp; omega)
    refine ⟨x4', x5', ?_⟩
    have h1 : decide (CMul t 48271) = true := mul_r (by decide)
    have h2 : decide (CMul 9973 (k : Int)) = true := mul_l (by decide)
    have h3 : ∀ x, decide (CDiv x 1021) = true := fun x => decide_eq_true ⟨by decide, by decide⟩
    have hl : acc.length < 100000 := by omega
    rw [List.range'_succ, List.map_cons, forD_next (ρ1 := [x0, x1, some (.dat (.int b)), some (.mut acc), some (.dat (.int k)), some (.dat (.int t))]) (by simp) (ρ2 := [x0, x1, some (.dat (.int b)), some (.mut (acc ++ [.int ((t * 48271 + 9973 * k + 11) % 2147483647 / 1021 % b)])), some (.dat (.int k)), some (.dat (.int ((t * 48271 + 9973 * k + 11) % 2147483647)))]) (M2 := M) (by simp [f_row_2, h1, h2, h3, hb, hl])]
    rw [ih]
    simp [lcg]
theorem range_cast (n : Nat) : rangeD 0 n = (List.range' 0 n).map fun (i : Nat) => PyData.int (i : Int) := by
  unfold rangeD
  rw [List.range_eq_range']
  simp
theorem row_ok (M : Mo) (c : Int) (n : Nat) (b : Int) (hb : 0 < b) (hb2 : b < 1073741824) (hn : n ≤ 1000) : m_row M [.int c, .int n, .int b] = .ok (lI (rowOf c n b)) := by
  unfold m_row b_row
  have hp : decide (CPow 10 18) = true := decide_eq_true ⟨by decide, by decide, by decide⟩
  have hn1 : (n : Int) ≤ 100000 := by omega
  have hn2 : -100000 ≤ (n : Int) := by omega
  have hm : ∀ x, decide (CMul x 69621) = true := fun x => mul_r (by decide)
  have ea : (if c < 0 then -c else c) = absI c := rfl
  by_cases h : 10 ^ 18 ≤ absI c
  · obtain ⟨c', x4', e⟩ := row_digs M b hb hb2 n 0 (absI c) (some (.dat (.int n))) [] none none (by simp; omega)
    have e2 : rowOf c n b = digs b n (absI c) := if_pos h
    have h' : (1000000000000000000 : Int) ≤ absI c := by simpa using h
    simp [hp, ea, h', hn1, hn2, range_cast, e, e2]
  · obtain ⟨x4', x5', e⟩ := row_lcg M b hb n 0 ((absI c % 1000003 + 17) * 69621 % 2147483647) (some (.dat (.int (absI c)))) (some (.dat (.int n))) [] none (by simp; omega)
    have e2 : rowOf c n b = lcg b n 0 ((absI c % 1000003 + 17) * 69621 % 2147483647) := if_neg h
    have h' : ¬ (1000000000000000000 : Int) ≤ absI c := by simpa using h
    have e' := e
    simp [hp, ea, h', hn1, hn2, hm, range_cast] at e ⊢
    rw [e]
    simp [e2]
def max0 (i j : Int) : Int := if j > i then j else i
def earBy (l : List Int) (m : Int) : List Int := if m % 4 = 1 then l.map fun f => max0 0 (f - 7) else if m % 4 = 2 then l.map fun f => f % 3 else l
theorem ear_by_ok (M : Mo) (l : List Int) (m : Int) (hl : l.length ≤ 1000) : m_ear_by M [lI l, .int m] = .ok (tI' (earBy l m)) := by
  unfold m_ear_by b_ear_by
  have hl' : l.length ≤ 50000 := by omega
  have c1 := compD_all (tg := tgName 2) (te := qOp max2D (qC (.int 0)) (qOp subD (qwVar 2) (qC (.int 7)))) (M := M) (ρ := [some (.dat (lI l)), some (.dat (.int m)), none]) PyData.int (fun f => .int (max0 0 (f - 7))) l fun x _ => ⟨_, rfl, by simp [max0]⟩
  have c2 := compD_all (tg := tgName 2) (te := qOp modD (qwVar 2) (qC (.int 3))) (M := M) (ρ := [some (.dat (lI l)), some (.dat (.int m)), none]) PyData.int (fun f => .int (f % 3)) l fun x _ => ⟨_, rfl, by simp⟩
  by_cases h1 : m % 4 = 1
  · simp [h1, hl', c1, earBy, Function.comp_def]
  · by_cases h2 : m % 4 = 2
    · simp [h2, hl', c2, earBy, Function.comp_def]
    · simp [h1, h2, earBy]
def earOf (c : Int) : List Int := earBy ((rowOf c 7 10).take 6) ((rowOf c 7 10).getD 6 0)
theorem cut_take {α : Type} (l : List α) (n : Nat) : Rf.cutD l none (some (n : Int)) = l.take n := by
  unfold Rf.cutD
  rw [HT.sIx_nat]
  simp [HT.sIx]
theorem cut_drop {α : Type} (l : List α) (n : Nat) : Rf.cutD l (some (n : Int)) none = l.drop n := by
  unfold Rf.cutD
  rw [HT.sIx_nat]
  simp [HT.sIx]
  by_cases h : n ≤ l.length
  · rw [Nat.min_eq_left h]
    exact List.take_of_length_le (by simp)
  · rw [Nat.min_eq_right (by omega), List.drop_eq_nil_of_le (by omega), List.drop_eq_nil_of_le (by omega)]
    simp
theorem atI_ints (l : List Int) (n : Nat) (h : n < l.length) : atI (l.map PyData.int) (n : Int) = some (.int (l.getD n 0)) := atI_nat (by simp [h])
theorem ear_ok (M : Mo) (c : Int) : m_ear M [.int c] = .ok (tI' (earOf c)) := by
  unfold m_ear b_ear
  have h1 : m_row M [.int c, .int 7, .int 10] = .ok (.list ((rowOf c 7 10).map .int)) := row_ok M c 7 10 (by decide) (by decide) (by decide)
  have h2 : Rf.cutD ((rowOf c 7 10).map PyData.int) none (some 6) = ((rowOf c 7 10).take 6).map PyData.int := by
    rw [show (6 : Int) = ((6 : Nat) : Int) from rfl, cut_take, List.map_take]
  have h3 : atI ((rowOf c 7 10).map PyData.int) 6 = some (.int ((rowOf c 7 10).getD 6 0)) := atI_ints _ 6 (by simp)
  have h4 : m_ear_by M [.list (((rowOf c 7 10).take 6).map .int), .int ((rowOf c 7 10).getD 6 0)] = .ok (.tuple ((earOf c).map .int)) := ear_by_ok M _ _ (by simp)
  generalize (rowOf c 7 10).getD 6 0 = z at h3 h4
  generalize ((rowOf c 7 10).take 6).map PyData.int = y at h2 h4
  simp [h1, h2, h3, h4]
theorem earOf_len (c : Int) : (earOf c).length = 6 := by
  unfold earOf earBy
  split
  · simp
  · split <;> simp
theorem earBy_in {l : List Int} {m : Int} (h : ∀ x ∈ l, 0 ≤ x ∧ x < 10) : ∀ x ∈ earBy l m, 0 ≤ x ∧ x < 10 := by
  unfold earBy max0
  split
  · intro x hx
    obtain ⟨y, hy, rfl⟩ := List.mem_map.mp hx
    have := h y hy
    split <;> omega
  · split
    · intro x hx
      obtain ⟨y, hy, rfl⟩ := List.mem_map.mp hx
      have := h y hy
      omega
    · exact h
theorem earOf_in (c : Int) : ∀ x ∈ earOf c, 0 ≤ x ∧ x < 10 := earBy_in fun x hx => row_in (by decide) c 7 x (List.mem_of_mem_take hx)
/-! ### what is like itself -/
mutual
def lk : Nat → Dat → Bool
  | _, .none => true
  | _, .bool _ => true
  | _, .int _ => true
  | _, .str _ => true
  | n + 1, .list ds => lks n ds
  | n + 1, .tuple ds => lks n ds
  | 0, .list _ => false
  | 0, .tuple _ => false
  | _, .dict _ => false
def lks : Nat → List Dat → Bool
  | _, [] => true
  | n, d :: ds => lk n d && lks n ds
end
theorem lks_iff {n : Nat} : ∀ {ds : List Dat}, lks n ds = true ↔ ∀ d ∈ ds, lk n d = true
  | [] => by simp [lks]
  | d :: ds => by simp [lks, lks_iff (ds := ds)]
@[simp] theorem lks_ints (n : Nat) (l : List Int) : lks n (l.map PyData.int) = true := lks_iff.mpr fun d h => by
  obtain ⟨i, _, rfl⟩ := List.mem_map.mp h
  simp [lk]
theorem whole_int (M : Mo) (i : Int) : m_whole M [.int i] = .ok (.bool true) := by
  unfold m_whole b_whole
  simp [isiD, isiB]
theorem zip_self (ds : List Dat) : zipD ds ds = ds.map fun d => .tuple [d, d] := by
  unfold zipD
  rw [List.zipWith_self]
theorem like_walk (M : Mo) (r : Mo → List Dat → Out Dat) (x0 x1 : Option Cell) : ∀ (ds : List Dat) (x2 x3 : Option Cell), (∀ d ∈ ds, r M [d, d] = .ok (.bool true)) → ∃ x2' x3', forD (tgTup [2, 3]) (f_like_1 r) (ds.map fun d => PyData.tuple [d, d]) M [x0, x1, x2, x3] = .next [x0, x1, x2', x3'] M
  | [], x2, x3, _ => ⟨x2, x3, rfl⟩
  | d :: ds, x2, x3, h => by
    obtain ⟨x2', x3', ih⟩ := like_walk M r x0 x1 ds (some (.dat d)) (some (.dat d)) fun d hd => h d (List.mem_cons_of_mem _ hd)
    refine ⟨x2', x3', ?_⟩
    have hd := h d List.mem_cons_self
    rw [List.map_cons, forD_next (ρ1 := [x0, x1, some (.dat d), some (.dat d)]) (by simp) (ρ2 := [x0, x1, some (.dat d), some (.dat d)]) (M2 := M) (by simp [f_like_1, hd])]
    exact ih
theorem like_ok (M : Mo) : ∀ (n : Nat) (d : Dat), lk n d = true → m_like (n + 1) M [d, d] = .ok (.bool true) := by
  intro n
  induction n with
  | zero =>
    intro d h
    show mQ 4 (b_like (m_like 0)) M [d, d] = _
    unfold b_like
    cases d with
    | none => simp [isCB]
    | bool b => cases b <;> simp [isCB]
    | int i => simp [isCB, isiD, isiB, whole_int]
    | str x => simp [isCB, isiD, isiB]
    | list ds => simp [lk] at h
    | tuple ds => simp [lk] at h
    | dict kv => simp [lk] at h
  | succ n ih =>
    intro d h
    show mQ 4 (b_like (m_like (n + 1))) M [d, d] = _
    unfold b_like
    cases d with
    | none => simp [isCB]
    | bool b => cases b <;> simp [isCB]
    | int i => simp [isCB, isiD, isiB, whole_int]
    | str x => simp [isCB, isiD, isiB]
    | list ds =>
      rw [lk, lks_iff] at h
      obtain ⟨x2', x3', e⟩ := like_walk M (m_like (n + 1)) (some (.dat (.list ds))) (some (.dat (.list ds))) ds none none fun d hd => ih d (h d hd)
      simp [isCB, isiD, isiB, zip_self, e]
    | tuple ds =>
      rw [lk, lks_iff] at h
      obtain ⟨x2', x3', e⟩ := like_walk M (m_like (n + 1)) (some (.dat (.tuple ds))) (some (.dat (.tuple ds))) ds none none fun d hd => ih d (h d hd)
      simp [isCB, isiD, isiB, zip_self, e]
    | dict kv => simp [lk] at h
/-! ### stories -/
inductive En where
  | torn (p : Nat) | cut (e : List Int) | sold (o : Int) (e : List Int) | moved (g : Int) | followed (o g : Int) | passed (o : Int) | died
def En.dat : En → Dat
  | .torn p => .tuple [.str "torn", .int p]
  | .cut e => .tuple [.str "cut", tI' e]
  | .sold o e => .tuple [.str "sold", .int o, tI' e]
  | .moved g => .tuple [.str "moved", .int g]
  | .followed o g => .tuple [.str "followed", .int o, .int g]
  | .passed o => .tuple [.str "passed", .int o]
  | .died => .tuple [.str "died"]
inductive Fi where
  | brought (o g : Int) (e : List Int) | born (m o g : Int)
def Fi.dat : Fi → Dat
  | .brought o g e => .tuple [.str "brought", .int o, .int g, tI' e]
  | .born m o g => .tuple [.str "born", .int m, .int o, .int g]
structure Sd where
  o : Int
  g : Int
  due : Option (List Int)
  ear : List Int
  al : Bool
def dueD : Option (List Int) → Dat
  | none => .none
  | some e => tI' e
def Sd.dat (s : Sd) : Dat := .tuple [.int s.o, .int s.g, dueD s.due, tI' s.ear, .bool s.al]
def deepen (l : List Int) (p : Nat) : List Int := l.mapIdx fun i x => if i = p then x + 1 else x
def go (s : Sd) : En → Sd
  | .torn p => { s with ear := deepen s.ear p }
  | .cut e => { s with due := some e, ear := e }
  | .sold o e => { s with o := o, due := some e, ear := e }
  | .moved g => { s with g := g }
  | .followed o g => { s with o := o, g := g }
  | .passed o => { s with o := o }
  | .died => { s with al := false }
def beg : Fi → Sd
  | .brought o g e => ⟨o, g, none, e, true⟩
  | .born _ o g => ⟨o, g, none, [0, 0, 0, 0, 0, 0], true⟩
theorem begun_ok (M : Mo) (f : Fi) : m_begun M [f.dat] = .ok (beg f).dat := by
  cases f <;> simp [m_begun, b_begun, Fi.dat, beg, Sd.dat, dueD, k_BARE_EAR]
theorem deepened_ok (M : Mo) (l : List Int) (p : Nat) (hl : l.length ≤ 1000) : m_deepened M [tI' l, .int p] = .ok (tI' (deepen l p)) := by
  unfold m_deepened b_deepened
  have c : enumD 0 (l.map PyData.int) = (l.mapIdx fun i x => (i, x)).map fun (q : Nat × Int) => PyData.tuple [.int q.1, .int q.2] := by
    unfold enumD
    rw [List.mapIdx_eq_mapIdx_iff.mpr (fun i h => rfl)]
    apply List.ext_getElem?
    intro i
    simp
    cases l[i]? <;> simp
  have c2 := compD_all (tg := tgTup [2, 3]) (te := qIf (qBl (qOp eqD (qwVar 2) (qwVar 1))) (qOp addD (qwVar 3) (qC (.int 1))) (qVar 3)) (M := M) (ρ := [some (.dat (tI' l)), some (.dat (.int p)), none, none]) (fun (q : Nat × Int) => PyData.tuple [.int q.1, .int q.2]) (fun q => .int (if q.1 = p then q.2 + 1 else q.2)) (l.mapIdx fun i x => (i, x)) fun x _ => ⟨[some (.dat (tI' l)), some (.dat (.int p)), some (.dat (.int x.1)), some (.dat (.int x.2))], by simp, by
    by_cases h : x.1 = p
    · simp [h]
    · have h' : ¬ ((x.1 : Int) = p) := by omega
      simp [h, h']⟩
  have hl' : l.length ≤ 50000 := by omega
  simp [c, c2, hl', deepen]
  apply List.ext_getElem?
  intro i
  simp
  cases l[i]? <;> simp
theorem deepen_len (l : List Int) (p : Nat) : (deepen l p).length = l.length := by simp [deepen]
theorem gone_ok (M : Mo) (s : Sd) (e : En) (hl : s.ear.length ≤ 1000) : m_gone_on M [s.dat, e.dat] = .ok (go s e).dat := by
  have h := fun p => deepened_ok M s.ear p hl
  cases e <;> simp [m_gone_on, b_gone_on, En.dat, go, Sd.dat, dueD, h]
def EarOk (l : List Int) : Prop := l.length = 6
def En.ok : En → Prop
  | .torn p => p < 6
  | .cut e => e.length = 6
  | .sold _ e => e.length = 6
  | _ => True
def Fi.ok : Fi → Prop
  | .brought _ _ e => e.length = 6
  | _ => True
theorem go_ear {s : Sd} {e : En} (h : s.ear.length = 6) (he : e.ok) : (go s e).ear.length = 6 := by
  cases e <;> simp [go, deepen_len, En.ok] at * <;> assumption
theorem beg_ear {f : Fi} (h : f.ok) : (beg f).ear.length = 6 := by
  cases f
  · exact h
  · rfl
theorem ended_walk (M : Mo) (x0 x1 x2 : Option Cell) : ∀ (es : List En) (s : Sd) (x4 : Option Cell), s.ear.length = 6 → (∀ e ∈ es, e.ok) → ∃ x4', forD (tgName 4) f_ended_1 (es.map En.dat) M [x0, x1, x2, some (.dat s.dat), x4] = .next [x0, x1, x2, some (.dat (es.foldl go s).dat), x4'] M
  | [], s, x4, _, _ => ⟨x4, rfl⟩
  | e :: es, s, x4, hs, he => by
    obtain ⟨x4', ih⟩ := ended_walk M x0 x1 x2 es (go s e) (some (.dat e.dat)) (go_ear hs (he e List.mem_cons_self)) fun d hd => he d (List.mem_cons_of_mem _ hd)
    refine ⟨x4', ?_⟩
    have h := gone_ok M s e (by omega)
    rw [List.map_cons, forD_next (ρ1 := [x0, x1, x2, some (.dat s.dat), some (.dat e.dat)]) (by simp) (ρ2 := [x0, x1, x2, some (.dat (go s e).dat), some (.dat e.dat)]) (M2 := M) (by simp [f_ended_1, h])]
    exact ih
def storyD (f : Fi) (es : List En) : List Dat := f.dat :: es.map En.dat
theorem ended_ok (M : Mo) (f : Fi) (es : List En) (hf : f.ok) (he : ∀ e ∈ es, e.ok) (hl : es.length ≤ 1000) : m_ended M [.list (storyD f es)] = .ok (es.foldl go (beg f)).dat := by
  unfold m_ended b_ended storyD
  have h1 := begun_ok M f
  obtain ⟨x4', h2⟩ := ended_walk M (some (.dat (.list (f.dat :: es.map En.dat)))) (some (.dat f.dat)) (some (.dat (.list (es.map En.dat)))) es (beg f) none (beg_ear hf) he
  have hl' : es.length ≤ 16000 := by omega
  simp [h1, h2, hl']
/-! ### the story that a script draws -/
def firstOf (c : Int) : Fi := if c % 3 = 1 then .born (1 + c / 3 % 20) (1 + c % 5) (1 + c / 5 % 4) else .brought (1 + c % 5) (1 + c / 5 % 4) (earOf (c / 20))
def enBy (p : List Int) : En :=
  if p.getD 8 0 < 4 then .torn (p.getD 9 0 % 6).toNat
  else if p.getD 8 0 < 6 then .cut (p.take 6)
  else match p.getD 9 0 % 5 with
    | 0 => .sold (1 + p.getD 6 0 + 10 * p.getD 7 0) (p.take 6)
    | 1 => .moved (1 + p.getD 7 0)
    | 2 => .followed (1 + p.getD 6 0 + 10 * p.getD 7 0) (1 + p.getD 7 0)
    | 3 => .passed (1 + p.getD 6 0 + 10 * p.getD 7 0)
    | _ => .died
def enOf (c : Int) : En := enBy (rowOf c 10 10)
theorem firstOf_ok (c : Int) : (firstOf c).ok := by
  unfold firstOf
  split
  · trivial
  · exact earOf_len _
theorem enOf_ok (c : Int) : (enOf c).ok := by
  unfold enOf enBy
  split
  · show (_ : Int).toNat < 6
    omega
  · split
    · simp [En.ok]
    · split <;> simp [En.ok]
theorem ten {α : Type} {l : List α} (h : l.length = 10) : ∃ a b c d e f g h i j, l = [a, b, c, d, e, f, g, h, i, j] := by
  match l, h with
  | [a, b, c, d, e, f, g, h, i, j], _ => exact ⟨a, b, c, d, e, f, g, h, i, j, rfl⟩
theorem mul10 (x : Int) : decide (CMul 10 x) = true := mul_l (by decide)
theorem story_step (M : Mo) (x0 x1 x3 : Option Cell) (c : Int) (acc : List Dat) (x5 x6 x7 x8 x9 : Option Cell) (hl : acc.length < 100000) : ∃ z5 z6 z7 z8 z9, f_story_1 M [x0, x1, some (.dat (.int c)), x3, some (.mut acc), x5, x6, x7, x8, x9] = .next [x0, x1, some (.dat (.int c)), x3, some (.mut (acc ++ [(enOf c).dat])), z5, z6, z7, z8, z9] M := by
  have hr : m_row M [.int c, .int 10, .int 10] = .ok (.list ((rowOf c 10 10).map .int)) := row_ok M c 10 10 (by decide) (by decide) (by decide)
  have hin := row_in (b := 10) (by decide) c 10
  have he : enOf c = enBy (rowOf c 10 10) := rfl
  obtain ⟨p0, p1, p2, p3, p4, p5, p6, p7, p8, p9, ep⟩ := ten (row_len c 10 10)
  rw [ep] at hr hin he
  rw [he]
  clear he
  have h9 := hin p9 (by simp)
  have hcut : ∀ a b c d e f g h i j : Dat, Rf.cutD [a, b, c, d, e, f, g, h, i, j] none (some 6) = [a, b, c, d, e, f] := fun _ _ _ _ _ _ _ _ _ _ => rfl
  have a7 : ∀ a b c d e f g h i j : Dat, atI [a, b, c, d, e, f, g, h, i, j] 7 = some h := fun _ _ _ _ _ _ _ _ _ _ => rfl
  have a8 : ∀ a b c d e f g h i j : Dat, atI [a, b, c, d, e, f, g, h, i, j] 8 = some i := fun _ _ _ _ _ _ _ _ _ _ => rfl
  have a9 : ∀ a b c d e f g h i j : Dat, atI [a, b, c, d, e, f, g, h, i, j] 9 = some j := fun _ _ _ _ _ _ _ _ _ _ => rfl
  have r5 : 0 ≤ p9 % 5 ∧ p9 % 5 < 5 := ⟨Int.emod_nonneg _ (by decide), Int.emod_lt_of_pos _ (by decide)⟩
  simp only [List.map_cons, List.map_nil] at hr
  by_cases c1 : p8 < 4
  · have e6 : ((p9 % 6).toNat : Int) = p9 % 6 := Int.toNat_of_nonneg (Int.emod_nonneg _ (by decide))
    simp [f_story_1, hr, hcut, a7, a8, a9, mul10, c1, hl, enBy, En.dat, e6]
  · by_cases c2 : p8 < 6
    · simp [f_story_1, hr, hcut, a7, a8, a9, mul10, c1, c2, hl, enBy, En.dat]
    · have hc : p9 % 5 = 0 ∨ p9 % 5 = 1 ∨ p9 % 5 = 2 ∨ p9 % 5 = 3 ∨ p9 % 5 = 4 := by omega
      rcases hc with hc | hc | hc | hc | hc <;> simp [f_story_1, hr, hcut, a7, a8, a9, mul10, c1, c2, hl, enBy, En.dat, hc]
theorem story_walk (M : Mo) (x0 x1 x3 : Option Cell) : ∀ (cs : List Int) (acc : List Dat) (x2 x5 x6 x7 x8 x9 : Option Cell), acc.length + cs.length < 100000 → ∃ y2 y5 y6 y7 y8 y9, forD (tgName 2) f_story_1 (cs.map PyData.int) M [x0, x1, x2, x3, some (.mut acc), x5, x6, x7, x8, x9] = .next [x0, x1, y2, x3, some (.mut (acc ++ cs.map fun c => (enOf c).dat)), y5, y6, y7, y8, y9] M
  | [], acc, x2, x5, x6, x7, x8, x9, _ => ⟨x2, x5, x6, x7, x8, x9, by simp [forD]⟩
  | c :: cs, acc, x2, x5, x6, x7, x8, x9, hl => by
    simp only [List.length_cons] at hl
    obtain ⟨z5, z6, z7, z8, z9, h⟩ := story_step M x0 x1 x3 c acc x5 x6 x7 x8 x9 (by omega)
    obtain ⟨y2, y5, y6, y7, y8, y9, ih⟩ := story_walk M x0 x1 x3 cs (acc ++ [(enOf c).dat]) (some (.dat (.int c))) z5 z6 z7 z8 z9 (by simp; omega)
    refine ⟨y2, y5, y6, y7, y8, y9, ?_⟩
    rw [List.map_cons, forD_next (by simp) h, ih]
    simp
theorem story_ok (M : Mo) (ns : List Int) (hl : ns.length ≤ 63) : m_story M [lI ns, .int 0] = .ok (.list (storyD (firstOf (ns.getD 0 0)) ((ns.drop 1).map enOf))) := by
  unfold m_story b_story
  have h0 : m_cell M [lI ns, .int 0] = .ok (.int (ns.getD 0 0)) := cell_ok M ns 0
  generalize hc : ns.getD 0 0 = c at h0
  have hd : ∀ x, decide (CDiv x 5) = true := fun x => decide_eq_true ⟨by decide, by decide⟩
  have hd2 : ∀ x, decide (CDiv x 20) = true := fun x => decide_eq_true ⟨by decide, by decide⟩
  have hd3 : ∀ x, decide (CDiv x 3) = true := fun x => decide_eq_true ⟨by decide, by decide⟩
  have he := ear_ok M (c / 20)
  have h2 : Rf.cutD (ns.map PyData.int) (some 1) none = (ns.drop 1).map PyData.int := by
    rw [show (1 : Int) = ((1 : Nat) : Int) from rfl, cut_drop, List.map_drop]
  have hcs : (ns.drop 1).length ≤ 63 := by simp; omega
  generalize ns.drop 1 = cs at *
  by_cases c1 : c % 3 = 1
  · obtain ⟨y2, y5, y6, y7, y8, y9, hw⟩ := story_walk M (some (.dat (lI ns))) (some (.dat (.int 0))) (some (.dat (firstOf c).dat)) cs [(firstOf c).dat] (some (.dat (.int c))) none none none none none (by simp; omega)
    simp [firstOf, c1, Fi.dat] at hw
    simp [h0, hd, hd2, hd3, he, h2, c1, hw, storyD, firstOf, Fi.dat]
  · obtain ⟨y2, y5, y6, y7, y8, y9, hw⟩ := story_walk M (some (.dat (lI ns))) (some (.dat (.int 0))) (some (.dat (firstOf c).dat)) cs [(firstOf c).dat] (some (.dat (.int c))) none none none none none (by simp; omega)
    simp [firstOf, c1, Fi.dat] at hw
    simp [h0, hd, hd2, hd3, he, h2, c1, hw, storyD, firstOf, Fi.dat]
/-! ### k26: each told value by its own walk -/
theorem owner_walk (M : Mo) (x0 : Option Cell) : ∀ (es : List En) (s : Sd) (x2 : Option Cell), ∃ y2, forD (tgName 2) f_owner_1 (es.map En.dat) M [x0, some (.dat (.int s.o)), x2] = .next [x0, some (.dat (.int (es.foldl go s).o)), y2] M
  | [], s, x2 => ⟨x2, rfl⟩
  | e :: es, s, x2 => by
    obtain ⟨y2, ih⟩ := owner_walk M x0 es (go s e) (some (.dat e.dat))
    refine ⟨y2, ?_⟩
    rw [List.map_cons, forD_next (ρ1 := [x0, some (.dat (.int s.o)), some (.dat e.dat)]) (by simp) (ρ2 := [x0, some (.dat (.int (go s e).o)), some (.dat e.dat)]) (M2 := M) (by cases e <;> simp [f_owner_1, En.dat, go])]
    exact ih
theorem owner_ok (M : Mo) (f : Fi) (es : List En) : m_owner M [.list (storyD f es)] = .ok (.int (es.foldl go (beg f)).o) := by
  unfold m_owner b_owner storyD
  obtain ⟨y2, h⟩ := owner_walk M (some (.dat (.list (f.dat :: es.map En.dat)))) es (beg f) (some (.dat f.dat))
  have h1 : forD (tgName 2) f_owner_1 (f.dat :: es.map En.dat) M [some (.dat (.list (f.dat :: es.map En.dat))), some (.dat (.int (beg f).o)), none] = .next [some (.dat (.list (f.dat :: es.map En.dat))), some (.dat (.int (es.foldl go (beg f)).o)), y2] M := by
    rw [forD_next (ρ1 := [some (.dat (.list (f.dat :: es.map En.dat))), some (.dat (.int (beg f).o)), some (.dat f.dat)]) (by simp) (ρ2 := [some (.dat (.list (f.dat :: es.map En.dat))), some (.dat (.int (beg f).o)), some (.dat f.dat)]) (M2 := M) (by cases f <;> simp [f_owner_1, Fi.dat])]
    exact h
  generalize es.map En.dat = ds at *
  generalize (es.foldl go (beg f)).o = z at *
  cases f <;> simp [Fi.dat, beg] at h1 ⊢ <;> simp [h1]
theorem ground_walk (M : Mo) (x0 : Option Cell) : ∀ (es : List En) (s : Sd) (x2 : Option Cell), ∃ y2, forD (tgName 2) f_ground_1 (es.map En.dat) M [x0, some (.dat (.int s.g)), x2] = .next [x0, some (.dat (.int (es.foldl go s).g)), y2] M
  | [], s, x2 => ⟨x2, rfl⟩
  | e :: es, s, x2 => by
    obtain ⟨y2, ih⟩ := ground_walk M x0 es (go s e) (some (.dat e.dat))
    refine ⟨y2, ?_⟩
    rw [List.map_cons, forD_next (ρ1 := [x0, some (.dat (.int s.g)), some (.dat e.dat)]) (by simp) (ρ2 := [x0, some (.dat (.int (go s e).g)), some (.dat e.dat)]) (M2 := M) (by cases e <;> simp [f_ground_1, En.dat, go])]
    exact ih
theorem ground_ok (M : Mo) (f : Fi) (es : List En) : m_ground M [.list (storyD f es)] = .ok (.int (es.foldl go (beg f)).g) := by
  unfold m_ground b_ground storyD
  obtain ⟨y2, h⟩ := ground_walk M (some (.dat (.list (f.dat :: es.map En.dat)))) es (beg f) (some (.dat f.dat))
  have h1 : forD (tgName 2) f_ground_1 (f.dat :: es.map En.dat) M [some (.dat (.list (f.dat :: es.map En.dat))), some (.dat (.int (beg f).g)), none] = .next [some (.dat (.list (f.dat :: es.map En.dat))), some (.dat (.int (es.foldl go (beg f)).g)), y2] M := by
    rw [forD_next (ρ1 := [some (.dat (.list (f.dat :: es.map En.dat))), some (.dat (.int (beg f).g)), some (.dat f.dat)]) (by simp) (ρ2 := [some (.dat (.list (f.dat :: es.map En.dat))), some (.dat (.int (beg f).g)), some (.dat f.dat)]) (M2 := M) (by cases f <;> simp [f_ground_1, Fi.dat])]
    exact h
  generalize es.map En.dat = ds at *
  generalize (es.foldl go (beg f)).g = z at *
  cases f <;> simp [Fi.dat, beg] at h1 ⊢ <;> simp [h1]
theorem due_walk (M : Mo) (x0 : Option Cell) : ∀ (es : List En) (s : Sd) (x2 : Option Cell), ∃ y2, forD (tgName 2) f_due_1 (es.map En.dat) M [x0, some (.dat (dueD s.due)), x2] = .next [x0, some (.dat (dueD (es.foldl go s).due)), y2] M
  | [], s, x2 => ⟨x2, rfl⟩
  | e :: es, s, x2 => by
    obtain ⟨y2, ih⟩ := due_walk M x0 es (go s e) (some (.dat e.dat))
    refine ⟨y2, ?_⟩
    rw [List.map_cons, forD_next (ρ1 := [x0, some (.dat (dueD s.due)), some (.dat e.dat)]) (by simp) (ρ2 := [x0, some (.dat (dueD (go s e).due)), some (.dat e.dat)]) (M2 := M) (by cases e <;> simp [f_due_1, En.dat, go, dueD])]
    exact ih
theorem due_ok (M : Mo) (f : Fi) (es : List En) : m_due M [.list (storyD f es)] = .ok (dueD (es.foldl go (beg f)).due) := by
  unfold m_due b_due storyD
  obtain ⟨y2, h⟩ := due_walk M (some (.dat (.list (f.dat :: es.map En.dat)))) es (beg f) (some (.dat f.dat))
  have hn : dueD (beg f).due = .none := by cases f <;> rfl
  rw [hn] at h
  have h1 : forD (tgName 2) f_due_1 (f.dat :: es.map En.dat) M [some (.dat (.list (f.dat :: es.map En.dat))), some (.dat .none), none] = .next [some (.dat (.list (f.dat :: es.map En.dat))), some (.dat (dueD (es.foldl go (beg f)).due)), y2] M := by
    rw [forD_next (ρ1 := [some (.dat (.list (f.dat :: es.map En.dat))), some (.dat .none), some (.dat f.dat)]) (by simp) (ρ2 := [some (.dat (.list (f.dat :: es.map En.dat))), some (.dat .none), some (.dat f.dat)]) (M2 := M) (by cases f <;> simp [f_due_1, Fi.dat])]
    exact h
  simp [h1]
theorem ixN_nat {n k : Nat} (h : k < n) : ixN n (k : Int) = some k := by
  unfold ixN
  simp [h]
theorem deepen_set (l : List Int) (p : Nat) (h : p < l.length) : (deepen l p).map PyData.int = (l.map PyData.int).set p (.int (l.getD p 0 + 1)) := by
  apply List.ext_getElem?
  intro i
  simp only [deepen, List.getElem?_map, List.getElem?_mapIdx, List.getElem?_set, List.length_map]
  by_cases e : p = i
  · subst e
    simp [h]
  · have e' : ¬ i = p := fun z => e z.symm
    cases l[i]? <;> simp [e, e']
theorem now_walk (M : Mo) (x0 : Option Cell) : ∀ (es : List En) (s : Sd) (x2 : Option Cell), s.ear.length = 6 → (∀ e ∈ es, e.ok) → ∃ y2, forD (tgName 2) f_now_1 (es.map En.dat) M [x0, some (.mut (s.ear.map PyData.int)), x2] = .next [x0, some (.mut ((es.foldl go s).ear.map PyData.int)), y2] M
  | [], s, x2, _, _ => ⟨x2, rfl⟩
  | e :: es, s, x2, hs, he => by
    obtain ⟨y2, ih⟩ := now_walk M x0 es (go s e) (some (.dat e.dat)) (go_ear hs (he e List.mem_cons_self)) fun d hd => he d (List.mem_cons_of_mem _ hd)
    refine ⟨y2, ?_⟩
    rw [List.map_cons, forD_next (ρ1 := [x0, some (.mut (s.ear.map PyData.int)), some (.dat e.dat)]) (by simp) (ρ2 := [x0, some (.mut ((go s e).ear.map PyData.int)), some (.dat e.dat)]) (M2 := M) (by
      have h1 := he e List.mem_cons_self
      cases e with
      | torn p =>
        have hp : p < 6 := h1
        have a1 := atI_ints s.ear p (by omega)
        have a2 : ixN 6 (p : Int) = some p := ixN_nat hp
        simp [f_now_1, En.dat, go, a1, hs, a2, deepen_set, hp]
      | _ => simp [f_now_1, En.dat, go])]
    exact ih
theorem now_ok (M : Mo) (f : Fi) (es : List En) (hf : f.ok) (he : ∀ e ∈ es, e.ok) : m_now M [.list (storyD f es)] = .ok (tI' (es.foldl go (beg f)).ear) := by
  unfold m_now b_now storyD
  obtain ⟨y2, h⟩ := now_walk M (some (.dat (.list (f.dat :: es.map En.dat)))) es (beg f) (some (.dat f.dat)) (beg_ear hf) he
  have h1 : forD (tgName 2) f_now_1 (f.dat :: es.map En.dat) M [some (.dat (.list (f.dat :: es.map En.dat))), some (.mut ((beg f).ear.map PyData.int)), none] = .next [some (.dat (.list (f.dat :: es.map En.dat))), some (.mut ((es.foldl go (beg f)).ear.map PyData.int)), y2] M := by
    rw [forD_next (ρ1 := [some (.dat (.list (f.dat :: es.map En.dat))), some (.mut ((beg f).ear.map PyData.int)), some (.dat f.dat)]) (by simp) (ρ2 := [some (.dat (.list (f.dat :: es.map En.dat))), some (.mut ((beg f).ear.map PyData.int)), some (.dat f.dat)]) (M2 := M) (by cases f <;> simp [f_now_1, Fi.dat])]
    exact h
  generalize es.map En.dat = ds at *
  generalize (es.foldl go (beg f)).ear = z at *
  cases f <;> simp [Fi.dat, beg] at h1 ⊢ <;> simp [h1]
theorem al_walk : ∀ (es : List En) (s : Sd), (es.foldl go s).al = (s.al && !(es.map En.dat).any fun z => PyData.eqv z (.tuple [.str "died"]))
  | [], s => by simp
  | e :: es, s => by
    rw [List.foldl_cons, al_walk es (go s e)]
    cases e <;> simp [go, En.dat]
theorem okd_en (e : En) : okd 3 e.dat = true := by cases e <;> simp [En.dat, okd, okds]
theorem okd_fi (f : Fi) : okd 3 f.dat = true := by cases f <;> simp [Fi.dat, okd, okds]
theorem lk_en (e : En) : lk 3 e.dat = true := by cases e <;> simp [En.dat, lk, lks]
theorem okds_story (f : Fi) (es : List En) (n : Nat) : okds (n + 3) (storyD f es) = true := okds_iff.mpr fun d h => by
  have hm : ∀ k d, okd 3 d = true → okd (k + 3) d = true := fun k d hd => by
    induction k with
    | zero => exact hd
    | succ k ih => rw [show k + 1 + 3 = k + 3 + 1 by omega]; exact okd_mono ih
  rcases List.mem_cons.mp h with rfl | h
  · exact hm n _ (okd_fi f)
  · obtain ⟨e, _, rfl⟩ := List.mem_map.mp h
    exact hm n _ (okd_en e)
theorem lk_sd (s : Sd) (n : Nat) : lk (n + 2) s.dat = true := by
  unfold Sd.dat
  cases h : s.due <;> simp [lk, lks, dueD]
theorem law_true (ns : List Int) (h : ns.length ≤ 63) : m_law [] [.list (ns.map PyData.int)] = .ok (.bool true) := by
  unfold m_law b_law
  have h1 := story_ok [] ns h
  have hf := firstOf_ok (ns.getD 0 0)
  generalize firstOf (ns.getD 0 0) = f at *
  have he : ∀ e ∈ (ns.drop 1).map enOf, e.ok := fun e he => by
    obtain ⟨c, _, rfl⟩ := List.mem_map.mp he
    exact enOf_ok c
  have hl : ((ns.drop 1).map enOf).length ≤ 1000 := by simp; omega
  generalize (ns.drop 1).map enOf = es at *
  have h2 := ended_ok [] f es hf he hl
  have h3 := owner_ok [] f es
  have h4 := ground_ok [] f es
  have h5 := due_ok [] f es
  have h6 := now_ok [] f es hf he
  have h7 := al_walk es (beg f)
  have h8 : (beg f).al = true := by cases f <;> rfl
  have h9 : ((storyD f es).any fun z => PyData.eqv z (.tuple [.str "died"])) = (es.map En.dat).any fun z => PyData.eqv z (.tuple [.str "died"]) := by
    unfold storyD
    cases f <;> simp [Fi.dat]
  have h10 : eqD (.list (storyD f es)) (.list (storyD f es)) = .ok (.bool true) := by
    have z : okd 12 (.list (storyD f es)) = true := okds_story f es 8
    unfold eqD eqB
    simp [z, eqv_self z]
  have h11 : inD true (.tuple [.str "died"]) (.list (storyD f es)) = .ok (.bool (es.foldl go (beg f)).al) := by
    have z := okds_story f es 9
    unfold inD inB
    rw [h7, h8, ← h9]
    simp [z, okd, okds]
  have h12 := like_ok [] 9 (es.foldl go (beg f)).dat (lk_sd _ 7)
  generalize es.foldl go (beg f) = s at *
  generalize storyD f es = st at *
  have e : PyData.tuple [.int s.o, .int s.g, dueD s.due, tI' s.ear, .bool s.al] = s.dat := rfl
  simp [h1, h2, h3, h4, h5, h6, h10, h11]
  rw [e, h12]
  rfl
end Pr
namespace Pr
open PySem PySem.Spec PyProof.Rows L2 Evl Rf
def ad0 : List Addr := [3, 15, 22, 29, 34, 41, 48, 55, 60, 67, 74, 81, 88, 95, 102, 109, 116, 123, 21, 28, 33, 40, 47, 54]
def ad1 : List Addr := [59, 66, 73, 80, 87, 94, 101, 108, 115, 122]
def ad : List Addr := ad0 ++ ad1

abbrev R : PySem.W.OpenRow := PySem.W.OpenLaw.row PySem.Challenge.rw_earmarks_k26_stories_end
abbrev hk : PySem.W.Hook := hookL ad fa fn [] exB
def ob (s : PySem.W.SharedT) : He.AlX := obsL ad fa fn [] exB (HandSHeadRun.getT s)
theorem ob_eq (s : PySem.W.SharedT) : ob s = hk.obs s.abs := obsL_eq (HandSHeadRun.getT_eq s)
theorem run (w : World) : HandSHeadRun.RunEq R (PySem.W.view R.prog [18]) hk ob 40000 nm w := by
  intro os
  kernel_rfl
end Pr
open PySem PySem.W PySem.Calls PyProof.Rows
set_option maxHeartbeats 0 in
theorem PySem.Challenge.cw_earmarks_k26_stories_end_holds : PySem.Challenge.rw_earmarks_k26_stories_end.Holds := by
  w_on; o_law
  refine HandSHeadRun.head_any (r := OpenLaw.row PySem.Challenge.rw_earmarks_k26_stories_end) (q := view (OpenLaw.row PySem.Challenge.rw_earmarks_k26_stories_end).prog [18]) (H := Pr.hk) (ob := Pr.ob) (M := 40000) (loose := Pr.nm) (d := HandSHeadRun.topDef (OpenLaw.row PySem.Challenge.rw_earmarks_k26_stories_end).prog 18) (kwd := []) Pr.ob_eq (by kernel_rfl) (fun s => by kernel_rfl) Pr.run (by kernel_rfl) (by kernel_rfl) (by kernel_rfl) (by rfl) (by first | assumption | decide +kernel) (by decide +kernel) ⟨rfl, rfl, rfl, rfl, rfl, by decide +kernel⟩ ?hw ?hc
  case hw => w_witness2
  case hc =>
    refine L2.walk_ofE (l := PySem.Challenge.rw_earmarks_k26_stories_end) (n := 63) (k := 13) (x := "_law_script") (CX := L2.CX0) rfl (by decide) (by kernel_rfl) ⟨rfl, by decide, by decide⟩ ?F (fun _ _ _ _ z => z)
    intro w mg fa h Y G hmg0
    obtain ⟨K, KX, c⟩ := Y
    have hmg : mg ("law" : PySem.Str) = some (.ref fa) := by
      have e : (HandSHeadRun.topDef (OpenLaw.row PySem.Challenge.rw_earmarks_k26_stories_end).prog 18).name = ("law" : PySem.Str) := by kernel_rfl
      rw [← e]
      exact hmg0
    have T : Pr.Top w K mg := ⟨⟨h, KX, G⟩, c⟩
    have e := hmg.symm.trans (T.glo 15)
    cases e
    obtain ⟨fd, F⟩ := T.c.fn_ 15
    have b := L2.FunD.bindsA (ps := ["_law_script"]) F fun _ _ _ _ _ _ us hl => match us, hl with | [_], _ => rfl
    exact ⟨K, fd, fun vs H Q _ => Rf.spQ K (Pr.cad w K) 1 Pr.m_law vs H Q fun _ _ _ => False, KX, fun s v => b s [v] rfl, fun H a ns hl _ hS => Rf.end_q rfl hS (Pr.law_true ns hl), fun base _ _ => Rf.fn_no (Pr.l_law T F)⟩

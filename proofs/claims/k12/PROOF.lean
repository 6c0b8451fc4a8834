import PyProof.Rows.All
import Wide.All
import OpenK.AllK
import Wide.FinOn
import HandS.ForMost
import HandS.Evl
import HandS.Walk
import HandS.Zip
import HandS.IsInst
import HandS.Style
import HandS.FStr
import HandS.Strs
import HandS.TupAny
import HandS.Deep
import HandS.Exc
import HandS.TryOnly
import HandS.ExcOwn
import HandS.WordsExc
import KE.GoesMore
import KE.GoesEnum
import KE.DataMinMax
import KE.SortData
import HandS.SortKw
import PySem.Challenge.RW_earmarks_k12_grounds_numbered
set_option Elab.async false
set_option linter.all false
set_option maxRecDepth 100000
set_option maxHeartbeats 2000000
namespace Ear
open PySem PySem.Spec PyProof.Rows L2 Evl RZ
theorem hu65 {A : Around} {k : Nat} (r : Room k A) : A.units + 65 < cLine := by
  have := r.un
  omega
/-! ### zip(tuple, list) -/
def ItTL (K : PySem.W.Frag) (a b : Addr) : It where
  go := fun i H => ∃ (xs ys : List V) (x y : V), SqT K H a xs ∧ SqL K H b ys ∧ xs[i]? = some x ∧ ys[i]? = some y
  yld := fun i H v H' => ∃ T x y, v = .ref T ∧ H T = none ∧ H' = upd H T (.tup [x, y]) ∧ (∀ xs, SqT K H a xs → xs[i]? = some x) ∧ ∀ ys, SqL K H b ys → ys[i]? = some y
  stop := fun i H => ∃ xs ys : List V, SqT K H a xs ∧ SqL K H b ys ∧ i ≤ xs.length ∧ i ≤ ys.length ∧ (xs.length = i ∨ ys.length = i)
theorem sepTL {z TI TO i1 i2 a b : Addr} (D : ZipApart z TI TO i1 i2 a b) : ZipSep2 z TI TO i1 i2 [i1, a] [i2, b] where
  TIz := D.TIz
  TOz := D.TOz
  TITO := D.TITO
  TIi1 := D.TIi1
  mem1 := by simp
  zf1 := by simp [D.i1z.symm, D.l1z.symm]
  Tf1 := by simp [D.TOi1, D.l1TO.symm]
  TIi2 := D.TIi2
  mem2 := by simp
  zf2 := by simp [D.i2z.symm, D.l2z.symm]
  Tf2 := by simp [D.TOi2, D.l2TO.symm]
  sep1_2 := by simp [D.i12, D.l2i1.symm]
  sep2_1 := by simp [D.i12.symm, D.l1i2.symm]
theorem turnTL {P : Program} {w : World} {K : PySem.W.Frag} {elts : List Expr} {kk : Nat} {tpos : Pos} {a b z TI TO i1 i2 : Addr} (D : ZipApart z TI TO i1 i2 a b) :
    Turn P w K (.Tuple elts kk tpos) (ItTL K a b) [z, TI, TO, i1, i2] z (fun n h => IsZip h z TI TO .none ∧ IsPair h TI (.ref i1) (.ref i2) ∧ (∃ x y, IsPair h TO x y) ∧ h.IsTupleIter i1 a n ∧ h.IsListIter i2 b n) where
  mem := by simp
  obj := fun n h q c hc => by
    obtain ⟨gz, gI, ⟨x, y, gO⟩, ⟨o1, e1, _, d1⟩, ⟨o2, e2, _, d2⟩⟩ := q
    simp only [List.mem_cons, List.not_mem_nil, or_false] at hc
    rcases hc with rfl | rfl | rfl | rfl | rfl
    · exact ⟨_, gz, fun v q => nomatch q⟩
    · exact ⟨_, gI, fun v q => nomatch q⟩
    · exact ⟨_, gO, fun v q => nomatch q⟩
    · exact ⟨o1, e1, fun v q => by rw [d1] at q; cases q⟩
    · exact ⟨o2, e2, fun v q => by rw [d2] at q; cases q⟩
  keep := fun n h h' q k => by
    obtain ⟨gz, gI, ⟨x, y, gO⟩, g1, g2⟩ := q
    refine ⟨k z (by simp) _ gz, k TI (by simp) _ gI, ⟨x, y, k TO (by simp) _ gO⟩, ?_, ?_⟩
    · exact g1.at fun o e => k i1 (by simp) o e
    · exact g2.at fun o e => k i2 (by simp) o e
  item := by
    intro X hP hw hK hc n pins s σ H E I hf q hg
    subst hP hw hK
    obtain ⟨gz, gI, ⟨x0, y0, gO⟩, g1, g2⟩ := q
    obtain ⟨xs, ys, x, y, qx, qy, hx, hy⟩ := hg
    obtain ⟨as, rv, p, _⟩ := I.tuple qx
    obtain ⟨bs, rv2, p2, _⟩ := I.list qy
    obtain ⟨u, hu, ru⟩ := rv.get hx
    obtain ⟨u2, hu2, ru2⟩ := rv2.get hy
    have hzl : z < s.heap.objs.size := Heap.lt_size gz
    have hA : X.A.handled = none := I.ok.hd hc
    have n1 : n < as.toArray.size := by
      have := (List.getElem?_eq_some_iff.mp hu).1
      simpa using this
    have n2 : n < bs.toArray.size := by
      have := (List.getElem?_eq_some_iff.mp hu2).1
      simpa using this
    refine wpAny_pyNext_zipD2_item (sepTL D) (Draws.tuple (A := X.A.in1) hA i1 a D.l1i1 as.toArray) (Draws.list (A := X.A.in1) hA i2 b D.l2i2 bs.toArray) gz gI gO ⟨g1, p⟩ ⟨g2, p2.isList⟩ n1 n2 fun v1 v2 h' tk hv1 hv2 z' TO' s1 s2 hT hsz hk => ?_
    have ev1 : v1 = u := Option.some.inj (hv1.symm.trans (by simpa using hu))
    have ev2 : v2 = u2 := Option.some.inj (hv2.symm.trans (by simpa using hu2))
    subst ev1 ev2
    refine ⟨_, rfl, wpAny_letOwnedTupleGo_zip (s := { s with heap := h', toks := tk }) z' fun h'' z'' sb => ?_⟩
    have hT2 : h''.get? s.heap.objs.size = some { cls := .type "tuple", data := .seq #[v1, v2] } := (sb.2 _ (Nat.ne_of_gt hzl)).trans hT
    have new : ObjOk X.prog X.w (upd H s.heap.objs.size (.tup [x, y])) h'' s.heap.objs.size (.tup [x, y]) := by
      refine ⟨by show 2 ≤ sizeLine; decide, [v1, v2], .cons ru (.cons ru2 .nil), ?_⟩
      exact ⟨_, hT2, rfl, _, rfl⟩
    have I1 : Inv X pins σ (upd H s.heap.objs.size (.tup [x, y])) { s with heap := h'', toks := tk } := by
      refine I.turnedNew (t' := tk) (ch := [z, TI, TO, i1, i2]) (fun c o hb e => ?_) hf ?_ new
      · simp only [List.mem_cons, List.not_mem_nil, or_false, not_or] at hb
        obtain ⟨b1, b2, b3, b4, b5⟩ := hb
        exact (sb.2 c b1).trans (hk c o b1 b3 b4 b5 e)
      · exact Nat.le_refl _
    refine ⟨.ref s.heap.objs.size, _, I1, rfl, ⟨_, x, y, rfl, I.hok.fresh (Nat.le_refl _), rfl, ?_, ?_⟩, ⟨z'', ?_, ⟨v1, v2, ?_⟩, ?_, ?_⟩, fun c hcm => ?_⟩
    · intro l hl
      rw [I.tuple_inj hl qx]
      exact hx
    · intro l hl
      rw [I.list_inj hl qy]
      exact hy
    · exact (sb.2 _ D.TIz).trans (hk _ _ D.TIz D.TITO D.TIi1 D.TIi2 gI)
    · exact (sb.2 _ D.TOz).trans TO'
    · exact s1.1.at fun o e => (sb.2 _ D.i1z).trans e
    · exact s2.1.at fun o e => (sb.2 _ D.i2z).trans e
    · have hlt : c < s.heap.objs.size := by
        simp only [List.mem_cons, List.not_mem_nil, or_false] at hcm
        rcases hcm with rfl | rfl | rfl | rfl | rfl
        · exact hzl
        · exact Heap.lt_size gI
        · exact Heap.lt_size gO
        · obtain ⟨_, e1, _⟩ := g1
          exact Heap.lt_size e1
        · obtain ⟨_, e2, _⟩ := g2
          exact Heap.lt_size e2
      rw [upd_ne (Nat.ne_of_lt hlt)]
      exact (hf c hcm).1
  done := by
    intro X hP hw hK hc n pins s σ H E I hf q hg
    subst hP hw hK
    obtain ⟨gz, gI, ⟨x0, y0, gO⟩, g1, g2⟩ := q
    obtain ⟨xs, ys, qx, qy, la, lb, hend⟩ := hg
    obtain ⟨as, rv, p, _⟩ := I.tuple qx
    obtain ⟨bs, rv2, p2, _⟩ := I.list qy
    have hA : X.A.handled = none := I.ok.hd hc
    have l1 := rv.length
    have l2 := rv2.length
    refine wpAny_pyNext_zipD2_end (sepTL D) (Draws.tuple (A := X.A.in1) hA i1 a D.l1i1 as.toArray) (Draws.list (A := X.A.in1) hA i2 b D.l2i2 bs.toArray) gz gI gO ⟨g1, p⟩ ⟨g2, p2.isList⟩ (by simp; omega) (by simp; omega) (by simp; omega) fun h' tk hk => ⟨rfl, ?_⟩
    refine I.turnedL (t' := tk) (ch := [z, TI, TO, i1, i2]) (fun c o hb e => ?_) hf
    simp only [List.mem_cons, List.not_mem_nil, or_false, not_or] at hb
    obtain ⟨b1, b2, b3, b4, b5⟩ := hb
    exact hk c o b1 b3 b4 b5 e
  self := fun A n s Q E q h => wpAny_pyIter_zip q.1 h
def iTL (K : PySem.W.Frag) (ta : TA) : TI := fun σ H R => ta σ H fun vs H1 => ∃ a b xs ys, vs = [.ref a, .ref b] ∧ SqT K H1 a xs ∧ SqL K H1 b ys ∧ R (ItTL K a b) H1
theorem pi_zipTL {X : Cx} {e e2 : Expr} {ta : TA} {p pos tpos : Pos} {elts : List Expr} {kk : Nat} (hg : Gl X "zip") (hm : X.mg "zip" = none) (ha : PA X [e, e2] ta)
    (hs : starEach [e, e2] X.env = (false, eval e X.env) :: starEach [e2] X.env := by rfl) (hq : (backTo pos (starEach [e2] X.env)).any (·.1) = false := by rfl) :
    PI X (.Tuple elts kk tpos) (.Call (.Name "zip" p) [e, e2] [] pos) (iTL X.K ta) := by
  constructor
  intro pins s σ H R I h
  refine Call_ (ld_blt I hg hm PyProof.Rows.boot_zip (PyProof.Rows.callWith_type1 (thn (ha.run pos pins s σ H _ I h) ?_) hs hq))
  rintro us s1 ⟨vs, H1, I1, r1, q1⟩
  obtain ⟨a, b, xs, ys, rfl, qx, qy, q⟩ := q1
  cases r1 with
  | cons r rr =>
    cases rr with
    | cons r' rr =>
      cases rr
      cases r
      cases r'
      obtain ⟨as, rv, p1, _⟩ := I1.tuple qx
      obtain ⟨bs, rv2, p2, _⟩ := I1.list qy
      obtain ⟨o1, ho1, _⟩ := id p1
      obtain ⟨o2, ho2, _⟩ := id p2.isList
      refine zip_begins2 (begins_tuple a as.toArray) (begins_list b bs.toArray) p1 p2.isList fun h' hz hTI hTO h1 h2 hsz hk => wpAny_pyIter_zip hz ?_
      have I2 : Inv X pins σ H1 { s1 with heap := h' } := I1.kept (t' := s1.toks) hk
      have F5 : ∀ c, c ∈ [s1.heap.objs.size + 4, s1.heap.objs.size + 2, s1.heap.objs.size + 3, s1.heap.objs.size, s1.heap.objs.size + 1] → FpOk X pins H1 c := by
        intro c hcm
        have hle : s1.heap.objs.size ≤ c := by
          simp only [List.mem_cons, List.not_mem_nil, or_false] at hcm
          rcases hcm with rfl | rfl | rfl | rfl | rfl
          · exact Nat.le_add_right _ _
          · exact Nat.le_add_right _ _
          · exact Nat.le_add_right _ _
          · exact Nat.le_refl _
          · exact Nat.le_add_right _ _
        exact I1.fpOk hle (I1.hok.fresh hle)
      refine ⟨s1.heap.objs.size + 4, _, _, _, H1, rfl, I2, turnTL (PySem.W.ktu_apart s1.heap.objs.size a b (Heap.lt_size ho1) (Heap.lt_size ho2)), ⟨hz, hTI, ⟨_, _, hTO⟩, ?_, ?_⟩, F5, q⟩
      · exact ⟨_, h1, rfl, rfl⟩
      · exact ⟨_, h2, rfl, rfl⟩
/-! ### x is True, x is False: x anything -/
def rIsT : R2 := fun x y H Q => ∃ b : Bool, y = .bl b ∧ Q (.bl (decide (x = .bl b))) H
theorem op_isT {X : Cx} : OpR X (compareOp .Is) rIsT := by
  intro pins s σ H x y v u Q I rx ry h
  obtain ⟨b, rfl, q⟩ := h
  cases (show u = Value.bool b from ry)
  by_cases e : x = .bl b
  · subst e
    cases (show v = Value.bool b from rx)
    exact wpAny_is_self rfl ⟨.bl true, H, I, rfl, by simpa using q⟩
  · have hne : v ≠ Value.bool b := by
      intro z
      apply e
      subst z
      cases x <;> first
        | (cases rx <;> rfl)
        | (obtain ⟨t, ht⟩ := rx; cases ht)
    have hq : Q (.bl false) H := by
      rw [decide_eq_false e] at q
      exact q
    refine wpAny_is_other ?_ hne ⟨.bl false, H, I, rfl, hq⟩
    cases x <;> first
      | (cases rx <;> rfl)
      | (obtain ⟨t, ht⟩ := rx; cases ht; rfl)
/-! ### an own exception made with nothing -/
section
variable {X : Cx} {C : Addr} {bmB : List Value} {B newId initId : String}
theorem pmk_own0 {x : Str} {p pos : Pos} (F : ExcBaseFacts B newId initId bmB) (q : PySem.W.excIn X.K C bmB newId = true) (gC : X.mg x = some (.ref C)) (kC : PySem.W.keepIn X.K (.ref C) = true) (r : Raises X (.ref C)) (hg : Gl X x)
    (hn : (x == ("__debug__" : Str)) = false := by decide) : PMk X (.Call (.Name x p) [] [] pos) (fun _ H Q => Q (.ref C) none H) := by
  intro pins s σ H Q I h
  refine wpAny_Call_Name_kw (ld_glob I hg gC ?_ hn)
  refine PySem.W.callWith_K0 I.kIn kC ?_
  show wpAny _ _ (call (.ref C) []) _ _ _
  obtain ⟨bm, N, nm, qn, bs, hdct, sn, sub, ab, col, dd, k0, k1, k2, k3, k5, mN, hC, hN, hni, T⟩ := exc_obj I.kIn q
  refine wpAny_call_exc_subT F T hC hN hni (fun h' e hm => ?_) (Nat.zero_le _)
  exact mk_of I hm r h (I.hok.gone hm.new)
end
theorem exm_one {K : PySem.W.Frag} {S : Addr} (h1 : PySem.W.subIn K (.ref S) (.type "BaseException") = some true) (h2 : PySem.W.isClsIn K S = true) (h3 : PySem.W.typeIn K (.ref S) = some (.type "type")) (h4 : PySem.W.subIn K (.ref S) (.ref S) = some true) :
    PySem.W.exmOne K (.ref S) (.ref S) = some true := by
  have e1 : (PySem.W.subIn K (.ref S) (.type "BaseException") == some true) = true := by rw [h1] <;> rfl
  have e2 : ((PySem.W.clsIn K S).isSome && PySem.W.typeIn K (.ref S) == some (.type "type")) = true := by
    rw [h3, Bool.and_eq_true]
    exact ⟨h2, rfl⟩
  show (if (PySem.W.subIn K (.ref S) (.type "BaseException") == some true) = true then (if ((PySem.W.clsIn K S).isSome && PySem.W.typeIn K (.ref S) == some (.type "type")) = true then PySem.W.subIn K (.ref S) (.ref S) else none) else none) = some true
  rw [if_pos e1, if_pos e2]
  exact h4
/-! ### walks of zip -/
theorem walkTT {K : PySem.W.Frag} {a b : Addr} {xs ys : List V} (hl : xs.length = ys.length) :
    Walk (ItzT K a b) xs.length (fun H => SqT K H a xs ∧ SqT K H b ys) (YPair (fun i => xs[i]?) (fun i => ys[i]?)) where
  goes := fun i H hi q => ⟨xs, ys, xs[i], ys[i]'(by omega), q.1, q.2, by simp, by simp⟩
  stops := fun H q => ⟨xs, ys, q.1, q.2, Or.inl (Nat.le_refl _)⟩
  yields := fun i H v H' _ q y => by
    obtain ⟨T, x, z, h1, h2, h3, h4, h5⟩ := y
    exact ⟨T, x, z, h1, h2, h3, h4 xs q.1, h5 ys q.2⟩
theorem walkLL {K : PySem.W.Frag} {a b : Addr} {xs ys : List V} (hl : xs.length = ys.length) :
    Walk (Itz K a b) xs.length (fun H => SqL K H a xs ∧ SqL K H b ys) (YPair (fun i => xs[i]?) (fun i => ys[i]?)) := walk_zip (by omega)
theorem walkTL {K : PySem.W.Frag} {a b : Addr} {xs ys : List V} (hl : xs.length = ys.length) :
    Walk (ItTL K a b) xs.length (fun H => SqT K H a xs ∧ SqL K H b ys) (YPair (fun i => xs[i]?) (fun i => ys[i]?)) where
  goes := fun i H hi q => ⟨xs, ys, xs[i], ys[i]'(by omega), q.1, q.2, by simp, by simp⟩
  stops := fun H q => ⟨xs, ys, q.1, q.2, Nat.le_refl _, by omega, Or.inl rfl⟩
  yields := fun i H v H' _ q y => by
    obtain ⟨T, x, z, h1, h2, h3, h4, h5⟩ := y
    exact ⟨T, x, z, h1, h2, h3, h4 xs q.1, h5 ys q.2⟩
/-- any walk, whatever is done with what it gives -/
theorem any_it {J : It} {n : Nat} {G : Hp → Prop} {Y : Nat → Hp → V → Hp → Prop} (w : Walk J n G Y) {H0 : Hp} {Qd : Hp → Prop} {B : V → Hp → (Hp → Prop) → Prop} (Pv : Nat → Hp → Prop) (h0 : Pv 0 H0) (hG : ∀ i H, i ≤ n → Pv i H → G H)
    (hs : ∀ i x H H', i < n → Pv i H → Y i H x H' → B x H' (Pv (i + 1))) (hd : ∀ H, Pv n H → Qd H) :
    ∃ W : Nat → Nat → Hp → Prop, (∃ m, W 0 m H0) ∧ ∀ i m H, W i m H → (J.stop i H ∧ Qd H) ∨ (J.go i H ∧ ∃ Nx : Hp → Prop, (∀ H', Nx H' → ∃ m', m' < m ∧ W (i + 1) m' H') ∧ ∀ x H', J.yld i H x H' → B x H' Nx) := by
  refine ⟨fun i m H => m = n - i ∧ i ≤ n ∧ Pv i H, ⟨n, rfl, Nat.zero_le _, h0⟩, ?_⟩
  rintro i m H ⟨rfl, hi, p⟩
  have q := hG i H hi p
  by_cases hlt : i < n
  · exact Or.inr ⟨w.goes i H hlt q, Pv (i + 1), fun H' p' => ⟨n - (i + 1), by omega, rfl, hlt, p'⟩, fun x H' y => hs i x H H' hlt p (w.yields i H x H' hlt q y)⟩
  · have e : i = n := by omega
    subst e
    exact Or.inl ⟨w.stops H q, hd H p⟩
/-! ### comprehensions -/
abbrev gTwo (K : PySem.W.Frag) (i j : Nat) : TG := gTup K 2 (gCons (gName i) (gCons (gName j) gNil))
theorem gTwo_of {K : PySem.W.Frag} {i j : Nat} {x y : V} {T : Addr} {σ : L2.St} {H : Hp} {Q : L2.St → Hp → Prop} (q : Q ((σ.set i (some x)).set j (some y)) (upd H T (.tup [x, y]))) :
    gTwo K i j (.ref T) σ (upd H T (.tup [x, y])) Q := ⟨T, [x, y], rfl, Or.inl (Or.inl upd_same), rfl, x, [y], rfl, y, [], rfl, rfl, q⟩
theorem gTwo_at {K : PySem.W.Frag} {i j : Nat} {x y : V} {T : Addr} {σ : L2.St} {H : Hp} {Q : L2.St → Hp → Prop} (h : H T = some (.tup [x, y])) (q : Q ((σ.set i (some x)).set j (some y)) H) :
    gTwo K i j (.ref T) σ H Q := ⟨T, [x, y], rfl, Or.inl (Or.inl h), rfl, x, [y], rfl, y, [], rfl, rfl, q⟩
theorem yes_if {σ : L2.St} {H : Hp} {A B : Hp → Prop} (h : A H) : tYes σ H (fun b H3 => if b = true then A H3 else B H3) := h
/-- what the first n pairs give -/
def pick (c : V → V → Bool) (g : V → V → V) (zs : List (V × V)) : List V := (zs.filter fun p => c p.1 p.2).map fun p => g p.1 p.2
theorem pick_len (c : V → V → Bool) (g : V → V → V) (zs : List (V × V)) : (pick c g zs).length ≤ zs.length := by
  unfold pick
  rw [List.length_map]
  exact List.length_filter_le _ _
theorem pick_yes {c : V → V → Bool} {g : V → V → V} {zs : List (V × V)} {x y : V} (h : c x y = true) : pick c g (zs ++ [(x, y)]) = pick c g zs ++ [g x y] := by
  unfold pick
  rw [List.filter_append, List.map_append]
  simp [h]
theorem pick_no {c : V → V → Bool} {g : V → V → V} {zs : List (V × V)} {x y : V} (h : c x y = false) : pick c g (zs ++ [(x, y)]) = pick c g zs := by
  unfold pick
  rw [List.filter_append]
  simp [h]
theorem zip_next {xs ys : List V} {i : Nat} {x y : V} (hx : xs[i]? = some x) (hy : ys[i]? = some y) : (xs.zip ys).take (i + 1) = (xs.zip ys).take i ++ [(x, y)] := by
  have h : (xs.zip ys)[i]? = some (x, y) := by
    rw [List.getElem?_zip_eq_some]
    exact ⟨hx, hy⟩
  rw [List.take_add_one, h]
  rfl
theorem zip_mem {xs ys : List V} {i : Nat} {x y : V} (hx : xs[i]? = some x) (hy : ys[i]? = some y) : (x, y) ∈ xs.zip ys := by
  have h : (xs.zip ys)[i]? = some (x, y) := by
    rw [List.getElem?_zip_eq_some]
    exact ⟨hx, hy⟩
  exact List.mem_of_getElem? h
section
variable {K : PySem.W.Frag} {σ : L2.St} {H : Hp} {te tl : TE} {tt : TT} {vs : List Nat}
theorem lc_pairs {J : It} {G : Hp → Prop} {xs ys : List V} {i j : Nat} {H1 : Hp} {D : Addr} {Qd : Hp → Prop} (w : Walk J xs.length G (YPair (fun i => xs[i]?) (fun i => ys[i]?))) (hl : xs.length = ys.length) (hz : xs.length ≤ 1000) (c : V → V → Bool) (g : V → V → V)
    (hD : H1 D = none) (hG : ∀ H', Ex H1 H' → G H') (hw : ∀ x y, wipe (((wipe σ vs).set i (some x)).set j (some y)) vs = wipe σ vs)
    (ht : ∀ x y H', Ex H1 H' → (x, y) ∈ xs.zip ys → EvT tt (((wipe σ vs).set i (some x)).set j (some y)) H' (c x y))
    (he : ∀ x y H', Ex H1 H' → (x, y) ∈ xs.zip ys → c x y = true → Ev te (((wipe σ vs).set i (some x)).set j (some y)) H' (g x y))
    (hd : ∀ H', Ex H1 H' → H' D = some (.lst (pick c g (xs.zip ys))) → Qd H') :
    ∃ W : Nat → Nat → Hp → Prop, (∃ m, W 0 m (upd H1 D (.lst []))) ∧ ∀ n m H, W n m H →
      (J.stop n H ∧ Qd H) ∨ (J.go n H ∧ ∃ Nx : Hp → Prop, (∀ H', Nx H' → ∃ m', m' < m ∧ W (n + 1) m' H') ∧ ∀ x H', J.yld n H x H' → gTwo K i j x (wipe σ vs) H' fun σ2 H2 => wipe σ2 vs = wipe σ vs ∧ tt σ2 H2 fun b H3 =>
        if b = true then te σ2 H3 fun y H4 => ∃ acc, H4 D = some (.lst acc) ∧ acc.length < sizeLine ∧ Nx (upd H4 D (.lst (acc ++ [y]))) else Nx H3) := by
  refine lc_it w (fun n H' => Ex H1 H' ∧ H' D = some (.lst (pick c g ((xs.zip ys).take n)))) ⟨Ex.new hD, upd_same⟩ (fun n H' _ p => hG H' p.1) ?_ ?_
  · rintro n v H' H'' hn ⟨p1, p2⟩ ⟨T, x, y, rfl, nT, rfl, hx, hy⟩
    have dT : D ≠ T := ne_of_none p2 nT
    have eT : Ex H1 (upd H' T (.tup [x, y])) := p1.trans (Ex.new nT)
    have pD : (upd H' T (.tup [x, y])) D = some (.lst (pick c g ((xs.zip ys).take n))) := by
      rw [upd_ne dT]
      exact p2
    refine gTwo_of ⟨hw x y, ?_⟩
    refine ht x y _ eT (zip_mem hx hy) _ (Ex.refl _) _ fun H3 e3 => ?_
    cases hc : c x y with
    | true =>
      refine iteT ?_
      refine he x y _ eT (zip_mem hx hy) hc H3 e3 _ fun H4 e4 => ⟨_, e4 D _ (e3 D _ pD), sz_lt ?_, Ex.mut ((eT.trans e3).trans e4) hD, ?_⟩
      · have h1 := pick_len c g ((xs.zip ys).take n)
        have h2 : ((xs.zip ys).take n).length ≤ n := List.length_take_le _ _
        omega
      · rw [zip_next hx hy, pick_yes hc]
        exact upd_same
    | false =>
      refine iteF ?_
      refine ⟨eT.trans e3, ?_⟩
      rw [zip_next hx hy, pick_no hc]
      exact e3 D _ pD
  · rintro H' ⟨p1, p2⟩
    refine hd H' p1 ?_
    rw [List.take_of_length_le (by rw [List.length_zip]; omega)] at p2
    exact p2
/-- [e for x, y in zip(a, b) if ..], two tuples -/
theorem el_zip {a b : Addr} {xs ys : List V} {ta : TA} {i j : Nat} (c : V → V → Bool) (g : V → V → V) (h : EvA ta σ H [.ref a, .ref b]) (hx : SqT K H a xs) (hy : SqT K H b ys) (hl : xs.length = ys.length) (hz : xs.length ≤ 1000)
    (hw : ∀ x y, wipe (((wipe σ vs).set i (some x)).set j (some y)) vs = wipe σ vs)
    (ht : ∀ x y H', Ex H H' → (x, y) ∈ xs.zip ys → EvT tt (((wipe σ vs).set i (some x)).set j (some y)) H' (c x y))
    (he : ∀ x y H', Ex H H' → (x, y) ∈ xs.zip ys → c x y = true → Ev te (((wipe σ vs).set i (some x)).set j (some y)) H' (g x y)) :
    EvL (tLc (iZipA K ta) (gTwo K i j) tt te vs) σ H (pick c g (xs.zip ys)) := fun H0 e Q q => h H0 e _ fun H1 e1 =>
  ⟨a, b, xs, ys, rfl, Or.inr ⟨ex_t (e.trans e1) hx, ex_t (e.trans e1) hy, fun D hD => lc_pairs (walkTT hl) hl hz c g hD (fun H' e2 => ⟨ex_t ((e.trans e1).trans e2) hx, ex_t ((e.trans e1).trans e2) hy⟩) hw
    (fun x y H' e2 m => ht x y H' ((e.trans e1).trans e2) m) (fun x y H' e2 m hc => he x y H' ((e.trans e1).trans e2) m hc) fun H' e2 h2 => q D H' (fresh_back e1 hD) (e1.trans e2) h2⟩⟩
theorem et_yes : EvT tYes σ H true := fun H1 _ _ q => q H1 (Ex.refl H1)
theorem pick_all (g : V → V → V) (zs : List (V × V)) : pick (fun _ _ => true) g zs = zs.map fun p => g p.1 p.2 := by
  unfold pick
  rw [List.filter_eq_self.mpr (fun _ _ => rfl)]
/-- [e for x in xs] -/
theorem given_map {xs : List V} (g : V → V) : given xs.length (fun _ => true) (fun i => g (xs.getD i .non)) = xs.map g := by
  unfold given
  rw [List.filter_eq_self.mpr (fun _ _ => rfl)]
  apply List.ext_getElem
  · simp
  · intro i h1 h2
    have hi : i < xs.length := by simpa using h2
    rw [List.getElem_map, List.getElem_map, List.getElem_range, List.getD_eq_getElem?_getD, List.getElem?_eq_getElem hi]
    rfl
theorem el_map {a : Addr} {xs : List V} {j : Nat} (g : V → V) (h : Ev tl σ H (.ref a)) (hx : SqL K H a xs) (hz : xs.length ≤ 1000) (hw : ∀ x, wipe ((wipe σ vs).set j (some x)) vs = wipe σ vs)
    (he : ∀ x ∈ xs, ∀ H1, Ex H H1 → Ev te ((wipe σ vs).set j (some x)) H1 (g x)) : EvL (tLc (iList K tl) (gName j) tYes te vs) σ H (xs.map g) := by
  have r := el_lcL (K := K) (t := tYes) (te := te) (tl := tl) (j := j) (vs := vs) (σ := σ) (H := H) (fun _ => true) (fun i => g (xs.getD i .non)) h hx (by omega) hw (fun _ _ _ _ _ => et_yes) (fun i x H1 e1 hi _ => by
    have hm := List.mem_of_getElem? hi
    have e0 : xs.getD i .non = x := by
      rw [List.getD_eq_getElem?_getD, hi]
      rfl
    rw [e0]
    exact he x hm H1 e1)
  rw [given_map] at r
  exact r
/-- tuple([..]) of a new list -/
theorem eu_tuple {xs : List V} (h : EvL te σ H xs) : EvU (tCB (fun xs H Q => ∃ p ys, xs = [.ref p] ∧ ((SqL K H p ys ∧ ∀ l, H l = none → Q (.ref l) (upd H l (.tup ys))) ∨ (SqT K H p ys ∧ Q (.ref p) H))) (tCons te tNil)) σ H xs := fun H1 e Q q =>
  h H1 e _ fun p H2 hp e2 h2 => ⟨p, xs, rfl, Or.inl ⟨sq_of h2, fun l hl => q l _ (fresh_back e2 hl) (e2.trans (Ex.new hl)) upd_same⟩⟩
/-- tuple(xs), xs a list that stands -/
theorem eu_tupleL {a : Addr} {xs : List V} (h : Ev te σ H (.ref a)) (hx : SqL K H a xs) : EvU (tCB (fun xs H Q => ∃ p ys, xs = [.ref p] ∧ ((SqL K H p ys ∧ ∀ l, H l = none → Q (.ref l) (upd H l (.tup ys))) ∨ (SqT K H p ys ∧ Q (.ref p) H))) (tCons te tNil)) σ H xs := fun H1 e Q q =>
  h H1 e _ fun H2 e2 => ⟨a, xs, rfl, Or.inl ⟨ex_l (e.trans e2) hx, fun l hl => q l _ (fresh_back e2 hl) (e2.trans (Ex.new hl)) upd_same⟩⟩
theorem ev_all {bs : List Bool} (h : EvL te σ H (bs.map V.bl)) : Ev (tCB (rAll K) (tCons te tNil)) σ H (.bl (bs.all id)) := fun H1 e Q q =>
  h H1 e _ fun p H2 _ e2 h2 => ⟨p, bs, rfl, sq_of h2, q H2 e2⟩
theorem ev_sum {ns : List Int} (h : EvL te σ H (ns.map V.int)) : Ev (tCB (rSum K) (tCons te tNil)) σ H (.int ns.sum) := fun H1 e Q q =>
  h H1 e _ fun p H2 _ e2 h2 => ⟨p, ns, rfl, sq_of h2, q H2 e2⟩
end
theorem max2 (i j : Int) : (if j > i then j else i) = max i j := by omega
theorem min2 (i j : Int) : (if j < i then j else i) = min i j := by omega
section
variable {σ : L2.St} {H : Hp} {ta tb : TE}
theorem ev_max {i j : Int} (ha : Ev ta σ H (.int i)) (hb : Ev tb σ H (.int j)) : Ev (tCB (fun xs H Q => ∃ i j, xs = [.int i, .int j] ∧ Q (.int (if j > i then j else i)) H) (tCons ta (tCons tb tNil))) σ H (.int (max i j)) := fun H1 e Q q =>
  ha H1 e _ fun H2 e2 => hb H2 (e.trans e2) _ fun H3 e3 => ⟨i, j, rfl, by rw [max2]; exact q H3 (e2.trans e3)⟩
theorem ev_min {i j : Int} (ha : Ev ta σ H (.int i)) (hb : Ev tb σ H (.int j)) : Ev (tCB (fun xs H Q => ∃ i j, xs = [.int i, .int j] ∧ Q (.int (if j < i then j else i)) H) (tCons ta (tCons tb tNil))) σ H (.int (min i j)) := fun H1 e Q q =>
  ha H1 e _ fun H2 e2 => hb H2 (e.trans e2) _ fun H3 e3 => ⟨i, j, rfl, by rw [min2]; exact q H3 (e2.trans e3)⟩
end
/-! ### ears -/
def EarL (xs : List Int) : Prop := xs.length = 6 ∧ ∀ x ∈ xs, 0 ≤ x ∧ x ≤ 9
abbrev TpI (K : PySem.W.Frag) (H : Hp) (a : Addr) (xs : List Int) : Prop := SqT K H a (xs.map V.int)
theorem zip_ints (xs ys : List Int) : (xs.map V.int).zip (ys.map V.int) = (xs.zip ys).map fun p => (V.int p.1, V.int p.2) := by
  induction xs generalizing ys with
  | nil => rfl
  | cons x r ih =>
    cases ys with
    | nil => rfl
    | cons y s => simp [ih]
theorem zip_ints_mem {xs ys : List Int} {v w : V} (h : (v, w) ∈ (xs.map V.int).zip (ys.map V.int)) : ∃ x y : Int, v = .int x ∧ w = .int y ∧ (x, y) ∈ xs.zip ys := by
  rw [zip_ints] at h
  obtain ⟨p, hp, e⟩ := List.mem_map.mp h
  cases e
  exact ⟨p.1, p.2, rfl, rfl, hp⟩
/-- a function of ints as one of values -/
def on2 (g : Int → Int → V) : V → V → V
  | .int i, .int j => g i j
  | _, _ => .non
def on2b (c : Int → Int → Bool) : V → V → Bool
  | .int i, .int j => c i j
  | _, _ => false
def on1 (g : Int → V) : V → V
  | .int i => g i
  | _ => .non
theorem pick_ints (c : Int → Int → Bool) (g : Int → Int → V) (xs ys : List Int) : pick (on2b c) (on2 g) ((xs.map V.int).zip (ys.map V.int)) = ((xs.zip ys).filter fun p => c p.1 p.2).map fun p => g p.1 p.2 := by
  rw [zip_ints]
  unfold pick
  rw [List.filter_map, List.map_map]
  rfl
theorem pick_ints1 (g : Int → Int → V) (xs ys : List Int) : pick (fun _ _ => true) (on2 g) ((xs.map V.int).zip (ys.map V.int)) = (xs.zip ys).map fun p => g p.1 p.2 := by
  rw [zip_ints, pick_all, List.map_map]
  rfl
theorem map_on1 (g : Int → V) (xs : List Int) : (xs.map V.int).map (on1 g) = xs.map g := by
  rw [List.map_map]
  rfl
section
variable {K : PySem.W.Frag} {σ : L2.St} {H : Hp} {te tl : TE} {tt : TT} {vs : List Nat}
/-- the same of two tuples of ints -/
theorem ez_ints {a b : Addr} {xs ys : List Int} {ta : TA} {i j : Nat} (g : Int → Int → V) (h : EvA ta σ H [.ref a, .ref b]) (hx : TpI K H a xs) (hy : TpI K H b ys) (hl : xs.length = ys.length) (hz : xs.length ≤ 1000)
    (hw : ∀ x y, wipe (((wipe σ vs).set i (some x)).set j (some y)) vs = wipe σ vs)
    (he : ∀ (x y : Int) H', Ex H H' → (x, y) ∈ xs.zip ys → Ev te (((wipe σ vs).set i (some (.int x))).set j (some (.int y))) H' (g x y)) :
    EvL (tLc (iZipA K ta) (gTwo K i j) tYes te vs) σ H ((xs.zip ys).map fun p => g p.1 p.2) := by
  have r := el_zip (K := K) (tt := tYes) (te := te) (fun _ _ => true) (on2 g) h hx hy (by simpa using hl) (by simpa using hz) hw (fun _ _ _ _ _ => et_yes) (fun v w H' e m _ => by
    obtain ⟨x, y, rfl, rfl, hm⟩ := zip_ints_mem m
    exact he x y H' e hm)
  rw [pick_ints1] at r
  exact r
theorem ez_intsIf {a b : Addr} {xs ys : List Int} {ta : TA} {i j : Nat} (c : Int → Int → Bool) (g : Int → Int → V) (h : EvA ta σ H [.ref a, .ref b]) (hx : TpI K H a xs) (hy : TpI K H b ys) (hl : xs.length = ys.length) (hz : xs.length ≤ 1000)
    (hw : ∀ x y, wipe (((wipe σ vs).set i (some x)).set j (some y)) vs = wipe σ vs)
    (ht : ∀ (x y : Int) H', Ex H H' → EvT tt (((wipe σ vs).set i (some (.int x))).set j (some (.int y))) H' (c x y))
    (he : ∀ (x y : Int) H', Ex H H' → Ev te (((wipe σ vs).set i (some (.int x))).set j (some (.int y))) H' (g x y)) :
    EvL (tLc (iZipA K ta) (gTwo K i j) tt te vs) σ H (((xs.zip ys).filter fun p => c p.1 p.2).map fun p => g p.1 p.2) := by
  have r := el_zip (K := K) (tt := tt) (te := te) (on2b c) (on2 g) h hx hy (by simpa using hl) (by simpa using hz) hw (fun v w H' e m => by
    obtain ⟨x, y, rfl, rfl, hm⟩ := zip_ints_mem m
    exact ht x y H' e) (fun v w H' e m _ => by
    obtain ⟨x, y, rfl, rfl, hm⟩ := zip_ints_mem m
    exact he x y H' e)
  rw [pick_ints] at r
  exact r
theorem em_ints {a : Addr} {xs : List Int} {j : Nat} (g : Int → V) (h : Ev tl σ H (.ref a)) (hx : SqL K H a (xs.map V.int)) (hz : xs.length ≤ 1000) (hw : ∀ x, wipe ((wipe σ vs).set j (some x)) vs = wipe σ vs)
    (he : ∀ x : Int, x ∈ xs → ∀ H1, Ex H H1 → Ev te ((wipe σ vs).set j (some (.int x))) H1 (g x)) : EvL (tLc (iList K tl) (gName j) tYes te vs) σ H (xs.map g) := by
  have r := el_map (K := K) (te := te) (on1 g) h hx (by simpa using hz) hw (fun v hv H1 e1 => by
    obtain ⟨x, hx', rfl⟩ := List.mem_map.mp hv
    exact he x hx' H1 e1)
  rw [map_on1] at r
  exact r
end
/-! ### comprehensions over a tuple; over what stands at an address -/
section
variable {K : PySem.W.Frag} {σ : L2.St} {H : Hp} {te tl : TE} {tt : TT} {vs : List Nat}
theorem take_next {xs : List V} {i : Nat} {x : V} (hx : xs[i]? = some x) : xs.take (i + 1) = xs.take i ++ [x] := by
  rw [List.take_add_one, hx]
  rfl
theorem em_tup {a : Addr} {xs : List V} {j : Nat} (g : V → V) (h : Ev tl σ H (.ref a)) (hx : SqT K H a xs) (hz : xs.length ≤ 1000) (hw : ∀ x, wipe ((wipe σ vs).set j (some x)) vs = wipe σ vs)
    (he : ∀ x ∈ xs, ∀ H1, Ex H H1 → Ev te ((wipe σ vs).set j (some x)) H1 (g x)) : EvL (tLc (iTup K tl) (gName j) tYes te vs) σ H (xs.map g) := fun H0 e Q q => h H0 e _ fun H1 e1 => ⟨a, rfl, ⟨xs, ex_t (e.trans e1) hx⟩, fun D hD => by
  refine lc_it walk_tup (fun n H' => Ex H1 H' ∧ H' D = some (.lst ((xs.take n).map g))) ⟨Ex.new hD, upd_same⟩ (fun n H' _ p => ex_t ((e.trans e1).trans p.1) hx) ?_ ?_
  · rintro n x H' H'' hn ⟨p1, p2⟩ ⟨rfl, gx⟩
    refine ⟨hw x, ?_⟩
    show te ((wipe σ vs).set j (some x)) _ _
    refine he x (List.mem_of_getElem? gx) _ ((e.trans e1).trans p1) _ (Ex.refl _) _ fun H4 e4 => ⟨_, e4 D _ p2, sz_lt ?_, Ex.mut (p1.trans e4) hD, ?_⟩
    · rw [List.length_map]
      have := List.length_take_le n xs
      omega
    · rw [upd_same, take_next gx, List.map_append]
      rfl
  · rintro H' ⟨p1, p2⟩
    rw [List.take_of_length_le (Nat.le_refl _)] at p2
    exact q D H' (fresh_back e1 hD) (e1.trans p1) p2⟩
theorem emT_ints {a : Addr} {xs : List Int} {j : Nat} (g : Int → V) (h : Ev tl σ H (.ref a)) (hx : TpI K H a xs) (hz : xs.length ≤ 1000) (hw : ∀ x, wipe ((wipe σ vs).set j (some x)) vs = wipe σ vs)
    (he : ∀ x : Int, x ∈ xs → ∀ H1, Ex H H1 → Ev te ((wipe σ vs).set j (some (.int x))) H1 (g x)) : EvL (tLc (iTup K tl) (gName j) tYes te vs) σ H (xs.map g) := by
  have r := em_tup (K := K) (te := te) (on1 g) h hx (by simpa using hz) hw (fun v hv H1 e1 => by
    obtain ⟨x, hx', rfl⟩ := List.mem_map.mp hv
    exact he x hx' H1 e1)
  rw [map_on1] at r
  exact r
theorem em_tupN {xs : List V} {j : Nat} (g : V → V) (h : EvU tl σ H xs) (hz : xs.length ≤ 1000) (hw : ∀ x, wipe ((wipe σ vs).set j (some x)) vs = wipe σ vs)
    (he : ∀ x ∈ xs, ∀ H1, Ex H H1 → Ev te ((wipe σ vs).set j (some x)) H1 (g x)) : EvL (tLc (iTup K tl) (gName j) tYes te vs) σ H (xs.map g) := fun H0 e Q q => h H0 e _ fun p H1 hp e1 h1 =>
  em_tup (K := K) (te := te) (tl := tC (.ref p)) g ev_c (st_of h1) hz hw (fun x hx H2 e2 => he x hx H2 ((e.trans e1).trans e2)) H1 (Ex.refl H1) Q fun p2 H2 n2 e2 h2 => q p2 H2 (fresh_back e1 n2) (e1.trans e2) h2
theorem emT_intsN {xs : List Int} {j : Nat} (g : Int → V) (h : EvU tl σ H (xs.map V.int)) (hz : xs.length ≤ 1000) (hw : ∀ x, wipe ((wipe σ vs).set j (some x)) vs = wipe σ vs)
    (he : ∀ x : Int, x ∈ xs → ∀ H1, Ex H H1 → Ev te ((wipe σ vs).set j (some (.int x))) H1 (g x)) : EvL (tLc (iTup K tl) (gName j) tYes te vs) σ H (xs.map g) := by
  have r := em_tupN (K := K) (te := te) (on1 g) h (by simpa using hz) hw (fun v hv H1 e1 => by
    obtain ⟨x, hx', rfl⟩ := List.mem_map.mp hv
    exact he x hx' H1 e1)
  rw [map_on1] at r
  exact r
/-- the list that is walked stands already: what the walk asks -/
theorem at_ints {a : Addr} {xs : List Int} {j : Nat} (g : Int → V) (hx : SqL K H a (xs.map V.int)) (hz : xs.length ≤ 1000) (hw : ∀ x, wipe ((wipe σ vs).set j (some x)) vs = wipe σ vs)
    (he : ∀ x : Int, x ∈ xs → ∀ H1, Ex H H1 → Ev te ((wipe σ vs).set j (some (.int x))) H1 (g x)) {Q : VK} (q : ∀ p H2, H p = none → Ex H H2 → H2 p = some (.lst (xs.map g)) → Q (.ref p) H2) :
    tLc (iList K (tC (.ref a))) (gName j) tYes te vs σ H Q := em_ints (K := K) (te := te) g ev_c hx hz hw he H (Ex.refl H) Q q
/-- evaluates to some value of which P is known -/
def EvS (te : TE) (σ : L2.St) (H : Hp) (P : V → Hp → Prop) : Prop := ∀ H1, Ex H H1 → ∀ Q : VK, (∀ v H2, Ex H1 H2 → P v H2 → Q v H2) → te σ H1 Q
def SomeL (P : List Int → Prop) (v : V) (H : Hp) : Prop := ∃ (p : Addr) (xs : List Int), v = .ref p ∧ H p = some (.lst (xs.map V.int)) ∧ P xs
/-- y = [e for x in call(..)], the call hands back some list of ints -/
theorem q_lcN {i j : Nat} {D : Ends} {tz : TS} (P : List Int → Prop) (g : Int → V) (h : EvS tl σ H (SomeL P)) (hz : ∀ xs, P xs → xs.length ≤ 1000) (hw : ∀ x, wipe ((wipe σ vs).set j (some x)) vs = wipe σ vs)
    (he : ∀ (x : Int) H1, Ex H H1 → Ev te ((wipe σ vs).set j (some (.int x))) H1 (g x)) (k : ∀ p H1 xs, P xs → H p = none → Ex H H1 → H1 p = some (.lst (xs.map g)) → tz D (σ.set i (some (.ref p))) H1) :
    tSeq (tAsg (tLc (iList K tl) (gName j) tYes te vs) (gName i)) tz D σ H := by
  refine h H (Ex.refl H) _ fun v H1 e1 hv => ?_
  obtain ⟨p, xs, rfl, hp, hP⟩ := hv
  exact em_ints (K := K) (te := te) (tl := tC (.ref p)) g ev_c (sq_of hp) (hz xs hP) hw (fun x _ H2 e2 => he x H2 (e1.trans e2)) H1 (Ex.refl H1) (fun v H' => tz D (σ.set i (some v)) H') fun p2 H2 n2 e2 h2 => k p2 H2 xs hP (fresh_back e1 n2) (e1.trans e2) h2
theorem ev_chain {ta tb tc : TE} {i j k : Int} (ha : Ev ta σ H (.int i)) (hb : Ev tb σ H (.int j)) (hc : Ev tc σ H (.int k)) :
    Ev (tChain (rI0 fun i j => .bl (decide (i ≤ j))) (rI0 fun i j => .bl (decide (i ≤ j))) ta tb tc) σ H (.bl (decide (i ≤ j) && decide (j ≤ k))) := fun H1 e Q q =>
  ha H1 e _ fun H2 e2 => hb H2 (e.trans e2) _ fun H3 e3 => ⟨i, j, rfl, rfl, _, rfl, by
    cases hd : decide (i ≤ j) with
    | true =>
      refine iteT ?_
      refine hc H3 ((e.trans e2).trans e3) _ fun H4 e4 => ⟨j, k, rfl, rfl, ?_⟩
      have r := q H4 ((e2.trans e3).trans e4)
      rw [hd, Bool.true_and] at r
      exact r
    | false =>
      refine iteF ?_
      have r := q H3 (e2.trans e3)
      rw [hd, Bool.false_and] at r
      exact r⟩
end
/-! ### values of which something is known -/
section
variable {K : PySem.W.Frag} {σ : L2.St} {H H' : Hp} {te ta tb : TE} {t : TT} {P R : V → Hp → Prop} {v : V}
theorem EvS.mono (e : Ex H H') (h : EvS te σ H P) : EvS te σ H' P := fun H1 a Q q => h H1 (e.trans a) Q q
theorem es_ev (h : Ev te σ H v) (hp : ∀ H', Ex H H' → P v H') : EvS te σ H P := fun H1 e Q q => h H1 e Q fun H2 e2 => q v H2 e2 (hp H2 (e.trans e2))
theorem EvS.imp (h : EvS te σ H P) (k : ∀ v H', P v H' → R v H') : EvS te σ H R := fun H1 e Q q => h H1 e Q fun v H2 e2 p => q v H2 e2 (k v H2 p)
def SomeT (n : Nat) (v : V) (_ : Hp) : Prop := ∃ z : Str, v = .str z ∧ z.length ≤ n
theorem q_asgS {i : Nat} {D : Ends} {tz : TS} (h : EvS te σ H P) (k : ∀ v H1, Ex H H1 → P v H1 → tz D (σ.set i (some v)) H1) : tSeq (tAsg te (gName i)) tz D σ H := h H (Ex.refl H) _ fun v H1 e p => k v H1 e p
/-- if t: x = e, of which the same is known whether or not -/
theorem q_maybe {i : Nat} {D : Ends} {tz : TS} {b : Bool} {v0 : V} (P : V → Hp → Prop) (h : EvT t σ H b) (he : b = true → EvS te σ H P) (h0 : ∀ H', Ex H H' → P v0 H') (hs : σ.set i (some v0) = σ) (k : ∀ v H1, Ex H H1 → P v H1 → tz D (σ.set i (some v)) H1) :
    tSeq (tIfS t (tAsg te (gName i)) tNext) tz D σ H := by
  refine q_when h (fun hb H1 e1 => ?_) (fun hb H1 e1 => ?_)
  · exact he hb H1 e1 _ fun v H2 e2 p => k v H2 (e1.trans e2) p
  · have g := k v0 H1 e1 (h0 H1 e1)
    rw [hs] at g
    exact g
theorem es_add {m n : Nat} (h1 : EvS ta σ H (SomeT m)) (h2 : EvS tb σ H (SomeT n)) (hz : m + n ≤ 5000) :
    EvS (tOp (fun x y H Q => ∃ i j, x = .str i ∧ y = .str j ∧ i.length + j.length ≤ sizeLine ∧ Q (.str (i ++ j)) H) ta tb) σ H (SomeT (m + n)) := fun H1 e Q q =>
  h1 H1 e _ fun v H2 e2 p => h2 H2 (e.trans e2) _ fun w H3 e3 r => by
    obtain ⟨x, rfl, hx⟩ := p
    obtain ⟨y, rfl, hy⟩ := r
    refine ⟨x, y, rfl, rfl, sz_of (by omega), q _ H3 (e2.trans e3) ⟨_, rfl, ?_⟩⟩
    rw [TL.len_tl, TL.tl_append, List.length_append, ← TL.len_tl, ← TL.len_tl]
    omega
theorem es_cut {n : Nat} {tl th : TO} {lo hi : Option Int} (h : EvS te σ H (SomeT n)) (h1 : EvO tl σ H lo) (h2 : EvO th σ H hi) (hz : n ≤ 5000) : EvS (tSl rSlS te tl th) σ H (SomeT n) := fun H1 e Q q =>
  h H1 e _ fun v H2 e2 p => h1 H2 (e.trans e2) _ fun H3 e3 => h2 H3 ((e.trans e2).trans e3) _ fun H4 e4 => by
    obtain ⟨x, rfl, hx⟩ := p
    refine ⟨x, rfl, sz_of (by omega), q _ H4 ((e2.trans e3).trans e4) ⟨_, rfl, ?_⟩⟩
    have := cutS_length x lo hi
    omega
/-- [e for x, y in zip(a new tuple, b)] -/
theorem el_zipN {b : Addr} {xs ys : List V} {vs : List Nat} {tt : TT} {i j : Nat} (c : V → V → Bool) (g : V → V → V) (h1 : EvU ta σ H xs) (h2 : Ev tb σ H (.ref b)) (hy : SqT K H b ys) (hl : xs.length = ys.length) (hz : xs.length ≤ 1000)
    (hw : ∀ x y, wipe (((wipe σ vs).set i (some x)).set j (some y)) vs = wipe σ vs)
    (ht : ∀ x y H', Ex H H' → (x, y) ∈ xs.zip ys → EvT tt (((wipe σ vs).set i (some x)).set j (some y)) H' (c x y))
    (he : ∀ x y H', Ex H H' → (x, y) ∈ xs.zip ys → c x y = true → Ev te (((wipe σ vs).set i (some x)).set j (some y)) H' (g x y)) :
    EvL (tLc (iZipA K (tCons ta (tCons tb tNil))) (gTwo K i j) tt te vs) σ H (pick c g (xs.zip ys)) := fun H0 e Q q => h1 H0 e _ fun a H1 na e1 ha => h2 H1 (e.trans e1) _ fun H2 e2 =>
  ⟨a, b, xs, ys, rfl, Or.inr ⟨st_of (e2 _ _ ha), ex_t ((e.trans e1).trans e2) hy, fun D hD => lc_pairs (walkTT hl) hl hz c g hD (fun H' e3 => ⟨st_of (e3 _ _ (e2 _ _ ha)), ex_t (((e.trans e1).trans e2).trans e3) hy⟩) hw
    (fun x y H' e3 m => ht x y H' (((e.trans e1).trans e2).trans e3) m) (fun x y H' e3 m hc => he x y H' (((e.trans e1).trans e2).trans e3) m hc) fun H' e3 h3 => q D H' (fresh_back (e1.trans e2) hD) ((e1.trans e2).trans e3) h3⟩⟩
end
theorem tyx_tup {K : PySem.W.Frag} {H : Hp} {a : Addr} {xs : List V} (h : SqT K H a xs) : TyX K H (.ref a) (.type "tuple") := by
  rcases h with (h | ⟨o, h⟩) | ⟨o, its, n, h, c, _⟩
  · exact .base (.tup h)
  · exact .fTuple h
  · exact .kTuple h c
theorem tyx_lst {K : PySem.W.Frag} {H : Hp} {a : Addr} {xs : List V} (h : H a = some (.lst xs)) : TyX K H (.ref a) (.type "list") := .base (.lst h)
theorem get_int {xs : List Int} {i : Nat} {v : V} (h : (xs.map V.int)[i]? = some v) : ∃ x, v = .int x ∧ xs[i]? = some x ∧ x ∈ xs := by
  rw [List.getElem?_map] at h
  cases e : xs[i]? with
  | none =>
    rw [e] at h
    cases h
  | some x =>
    rw [e] at h
    cases h
    exact ⟨x, rfl, rfl, List.mem_of_getElem? e⟩
def lowB (xs ys : List Int) : Bool := (xs.zip ys).all fun p => decide (p.1 ≤ p.2)
theorem lowB_iff {xs ys : List Int} : lowB xs ys = true ↔ ∀ p ∈ xs.zip ys, p.1 ≤ p.2 := by
  unfold lowB
  simp only [List.all_eq_true, decide_eq_true_eq]
theorem zipI_mem {xs ys : List Int} {i : Nat} {x y : Int} (hx : xs[i]? = some x) (hy : ys[i]? = some y) : (x, y) ∈ xs.zip ys := by
  have h : (xs.zip ys)[i]? = some (x, y) := by
    rw [List.getElem?_zip_eq_some]
    exact ⟨hx, hy⟩
  exact List.mem_of_getElem? h
theorem zipI_next {xs ys : List Int} {i : Nat} {x y : Int} (hx : xs[i]? = some x) (hy : ys[i]? = some y) : (xs.zip ys).take (i + 1) = (xs.zip ys).take i ++ [(x, y)] := by
  have h : (xs.zip ys)[i]? = some (x, y) := by
    rw [List.getElem?_zip_eq_some]
    exact ⟨hx, hy⟩
  rw [List.take_add_one, h]
  rfl
def maxL (xs ys : List Int) : List Int := (xs.zip ys).map fun p => max p.1 p.2
def minL (xs ys : List Int) : List Int := (xs.zip ys).map fun p => min p.1 p.2
def lackI (xs ys : List Int) : Int := (((xs.zip ys).filter fun p => decide (p.1 < p.2)).map fun p => p.2 - p.1).sum
def tearI (xs ys : List Int) : Int := ((xs.zip ys).map fun p => max 0 (p.2 - p.1)).sum
theorem maxL_len {xs ys : List Int} (h : xs.length = ys.length) : (maxL xs ys).length = xs.length := by
  unfold maxL
  rw [List.length_map, List.length_zip]
  omega
theorem minL_len {xs ys : List Int} (h : xs.length = ys.length) : (minL xs ys).length = xs.length := by
  unfold minL
  rw [List.length_map, List.length_zip]
  omega
theorem maxL_cons (x y : Int) (xs ys : List Int) : maxL (x :: xs) (y :: ys) = max x y :: maxL xs ys := rfl
theorem minL_cons (x y : Int) (xs ys : List Int) : minL (x :: xs) (y :: ys) = min x y :: minL xs ys := rfl
theorem lowB_cons (x y : Int) (xs ys : List Int) : lowB (x :: xs) (y :: ys) = (decide (x ≤ y) && lowB xs ys) := rfl
theorem tearI_cons (x y : Int) (xs ys : List Int) : tearI (x :: xs) (y :: ys) = max 0 (y - x) + tearI xs ys := by
  unfold tearI
  rw [List.zip_cons_cons, List.map_cons, List.sum_cons]
theorem tearI_nil (ys : List Int) : tearI [] ys = 0 := rfl
theorem tearI_nil2 (xs : List Int) : tearI xs [] = 0 := by
  unfold tearI
  rw [List.zip_nil_right]
  rfl
theorem lackI_eq : ∀ xs ys : List Int, lackI xs ys = tearI xs ys
  | [], ys => rfl
  | x :: xs, [] => rfl
  | x :: xs, y :: ys => by
    have ih := lackI_eq xs ys
    rw [tearI_cons, ← ih]
    unfold lackI
    rw [List.zip_cons_cons, List.filter_cons]
    by_cases h : x < y
    · rw [if_pos (decide_eq_true h), List.map_cons, List.sum_cons]
      show (y - x) + _ = _
      omega
    · rw [if_neg (by rw [decide_eq_false h]; decide)]
      omega
theorem tearI_nonneg : ∀ xs ys : List Int, 0 ≤ tearI xs ys
  | [], ys => by rw [tearI_nil]; decide
  | x :: xs, [] => by rw [tearI_nil2]; decide
  | x :: xs, y :: ys => by
    have ih := tearI_nonneg xs ys
    rw [tearI_cons]
    omega
theorem low_max : ∀ xs ys zs : List Int, xs.length = ys.length → lowB (maxL xs ys) zs = (lowB xs zs && lowB ys zs)
  | [], ys, zs, h => by
    cases ys with
    | nil => rfl
    | cons y ys => cases h
  | x :: xs, [], zs, h => by cases h
  | x :: xs, y :: ys, [], _ => rfl
  | x :: xs, y :: ys, z :: zs, h => by
    have ih := low_max xs ys zs (Nat.succ.inj h)
    have h1 : decide (max x y ≤ z) = (decide (x ≤ z) && decide (y ≤ z)) := by
      rw [Bool.eq_iff_iff, Bool.and_eq_true, decide_eq_true_eq, decide_eq_true_eq, decide_eq_true_eq]
      omega
    rw [maxL_cons, lowB_cons, lowB_cons, lowB_cons, ih, h1]
    cases decide (x ≤ z) <;> cases decide (y ≤ z) <;> cases lowB xs zs <;> cases lowB ys zs <;> rfl
theorem low_min : ∀ xs ys zs : List Int, xs.length = ys.length → lowB zs (minL xs ys) = (lowB zs xs && lowB zs ys)
  | [], ys, zs, h => by
    cases ys with
    | nil => cases zs <;> rfl
    | cons y ys => cases h
  | x :: xs, [], zs, h => by cases h
  | x :: xs, y :: ys, [], _ => rfl
  | x :: xs, y :: ys, z :: zs, h => by
    have ih := low_min xs ys zs (Nat.succ.inj h)
    have h1 : decide (z ≤ min x y) = (decide (z ≤ x) && decide (z ≤ y)) := by
      rw [Bool.eq_iff_iff, Bool.and_eq_true, decide_eq_true_eq, decide_eq_true_eq, decide_eq_true_eq]
      omega
    rw [minL_cons, lowB_cons, lowB_cons, lowB_cons, ih, h1]
    cases decide (z ≤ x) <;> cases decide (z ≤ y) <;> cases lowB zs xs <;> cases lowB zs ys <;> rfl
theorem tear_max : ∀ xs ys : List Int, tearI xs (maxL xs ys) = tearI xs ys
  | [], ys => rfl
  | x :: xs, [] => rfl
  | x :: xs, y :: ys => by
    have ih := tear_max xs ys
    rw [maxL_cons, tearI_cons, tearI_cons, ih]
    omega
theorem tear_min : ∀ xs ys : List Int, tearI (minL xs ys) ys = tearI xs ys
  | [], ys => rfl
  | x :: xs, [] => by rw [tearI_nil2, tearI_nil2]
  | x :: xs, y :: ys => by
    have ih := tear_min xs ys
    rw [minL_cons, tearI_cons, tearI_cons, ih]
    omega
theorem tear_zero : ∀ xs ys : List Int, decide (tearI xs ys = 0) = lowB ys xs
  | [], ys => by cases ys <;> rfl
  | x :: xs, [] => by rw [tearI_nil2]; rfl
  | x :: xs, y :: ys => by
    have ih := tear_zero xs ys
    have h0 := tearI_nonneg xs ys
    rw [tearI_cons, lowB_cons, ← ih]
    rw [Bool.eq_iff_iff]
    simp only [Bool.and_eq_true, decide_eq_true_eq]
    omega
theorem tear_tri : ∀ xs ys zs : List Int, xs.length = ys.length → ys.length = zs.length → tearI xs zs ≤ tearI xs ys + tearI ys zs
  | [], ys, zs, _, _ => by
    have h1 := tearI_nonneg ys zs
    rw [tearI_nil, tearI_nil]
    omega
  | x :: xs, [], zs, h, _ => by cases h
  | x :: xs, y :: ys, [], _, h => by cases h
  | x :: xs, y :: ys, z :: zs, h1, h2 => by
    have ih := tear_tri xs ys zs (Nat.succ.inj h1) (Nat.succ.inj h2)
    rw [tearI_cons, tearI_cons, tearI_cons]
    omega
theorem tear_sum : ∀ xs ys zs : List Int, xs.length = ys.length → ys.length = zs.length → lowB xs ys = true → lowB ys zs = true → tearI xs zs = tearI xs ys + tearI ys zs
  | [], ys, zs, h1, h2, _, _ => by
    cases ys with
    | nil => rfl
    | cons y ys => cases h1
  | x :: xs, [], zs, h, _, _, _ => by cases h
  | x :: xs, y :: ys, [], _, h, _, _ => by cases h
  | x :: xs, y :: ys, z :: zs, h1, h2, l1, l2 => by
    rw [lowB_cons, Bool.and_eq_true, decide_eq_true_eq] at l1 l2
    have ih := tear_sum xs ys zs (Nat.succ.inj h1) (Nat.succ.inj h2) l1.2 l2.2
    rw [tearI_cons, tearI_cons, tearI_cons, ih]
    omega
theorem ear_zip {xs ys : List Int} {f : Int → Int → Int} (h1 : EarL xs) (h2 : EarL ys) (hf : ∀ x y : Int, 0 ≤ x ∧ x ≤ 9 → 0 ≤ y ∧ y ≤ 9 → 0 ≤ f x y ∧ f x y ≤ 9) : EarL ((xs.zip ys).map fun p => f p.1 p.2) := by
  refine ⟨by rw [List.length_map, List.length_zip, h1.1, h2.1]; rfl, fun z hz => ?_⟩
  obtain ⟨p, hp, rfl⟩ := List.mem_map.mp hz
  have m := List.of_mem_zip hp
  exact hf _ _ (h1.2 _ m.1) (h2.2 _ m.2)
theorem ear_max {xs ys : List Int} (h1 : EarL xs) (h2 : EarL ys) : EarL (maxL xs ys) := ear_zip h1 h2 (fun x y _ _ => by omega)
theorem ear_min {xs ys : List Int} (h1 : EarL xs) (h2 : EarL ys) : EarL (minL xs ys) := ear_zip h1 h2 (fun x y _ _ => by omega)
/-! ### numbers of ears -/
def wT : List Int := [100000, 10000, 1000, 100, 10, 1]
def numI (xs : List Int) : Int := ((xs.zip wT).map fun p => p.1 * p.2).sum
def digs (n : Int) : List Int := wT.map fun w => n / w % 10
def lessI : List Int → List Int → Bool
  | x :: xs, y :: ys => if x = y then lessI xs ys else decide (x < y)
  | _, _ => false
theorem six {xs : List Int} (h : EarL xs) : ∃ a b c d e f : Int, xs = [a, b, c, d, e, f] ∧ (0 ≤ a ∧ a ≤ 9) ∧ (0 ≤ b ∧ b ≤ 9) ∧ (0 ≤ c ∧ c ≤ 9) ∧ (0 ≤ d ∧ d ≤ 9) ∧ (0 ≤ e ∧ e ≤ 9) ∧ 0 ≤ f ∧ f ≤ 9 := by
  obtain ⟨hl, hb⟩ := h
  match xs, hl with
  | [a, b, c, d, e, f], _ => exact ⟨a, b, c, d, e, f, rfl, hb a (by simp), hb b (by simp), hb c (by simp), hb d (by simp), hb e (by simp), hb f (by simp)⟩
theorem numI_six (a b c d e f : Int) : numI [a, b, c, d, e, f] = a * 100000 + b * 10000 + c * 1000 + d * 100 + e * 10 + f := by
  show (a * 100000 + (b * 10000 + (c * 1000 + (d * 100 + (e * 10 + (f * 1 + 0)))))) = _
  omega
theorem numI_in {xs : List Int} (h : EarL xs) : 0 ≤ numI xs ∧ numI xs ≤ 999999 := by
  obtain ⟨a, b, c, d, e, f, rfl, _⟩ := six h
  rw [numI_six]
  omega
theorem digs_num {xs : List Int} (h : EarL xs) : digs (numI xs) = xs := by
  obtain ⟨a, b, c, d, e, f, rfl, ha, hb, hc, hd, he, hf⟩ := six h
  rw [numI_six]
  unfold digs wT
  simp only [List.map_cons, List.map_nil, List.cons.injEq, and_true]
  refine ⟨?_, ?_, ?_, ?_, ?_, ?_⟩ <;> omega
theorem less_num {xs ys : List Int} (h : EarL xs) (k : EarL ys) : decide (numI xs < numI ys) = lessI xs ys := by
  obtain ⟨a, b, c, d, e, f, rfl, ha, hb, hc, hd, he, hf⟩ := six h
  obtain ⟨a', b', c', d', e', f', rfl, ha', hb', hc', hd', he', hf'⟩ := six k
  rw [numI_six, numI_six]
  simp only [lessI]
  repeat' split
  all_goals (first | (rw [decide_eq_false]; omega) | (rw [decide_eq_decide]; omega))
theorem wT_in {x : Int} (m : x ∈ wT) : 0 < x ∧ x < 1073741824 := by
  have m' : x = 100000 ∨ x = 10000 ∨ x = 1000 ∨ x = 100 ∨ x = 10 ∨ x = 1 := by simpa [wT] using m
  omega
theorem four_at (y : Int) : ∃ v : Int, atI ([0, 0 - 1, 999999, 1000000].map V.int) (y % 4) = some (.int v) := by
  have h : (y % 4).toNat < ([0, 0 - 1, 999999, 1000000] : List Int).length := by
    show (y % 4).toNat < 4
    omega
  exact ⟨[0, 0 - 1, 999999, 1000000][(y % 4).toNat], at_of (j := (y % 4).toNat) (by omega) (by rw [List.getElem?_map, List.getElem?_eq_getElem h]; rfl)⟩
end Ear

namespace Ear
open PySem PySem.Spec PyProof.Rows L2 Evl RZ
/-! ### lists of values that stand for others -/
def All2 {α : Type} (R : V → α → Prop) (ws : List V) (L : List α) : Prop := ws.length = L.length ∧ ∀ (i : Nat) (v : V) (x : α), ws[i]? = some v → L[i]? = some x → R v x
theorem All2.imp {α : Type} {R S : V → α → Prop} {ws : List V} {L : List α} (h : All2 R ws L) (k : ∀ v x, R v x → S v x) : All2 S ws L := ⟨h.1, fun i v x a b => k v x (h.2 i v x a b)⟩
theorem All2.nil {α : Type} {R : V → α → Prop} : All2 R [] [] := ⟨rfl, fun i v x a _ => by simp at a⟩
theorem All2.snoc {α : Type} {R : V → α → Prop} {ws : List V} {L : List α} {v : V} {x : α} (h : All2 R ws L) (k : R v x) : All2 R (ws ++ [v]) (L ++ [x]) := by
  refine ⟨by rw [List.length_append, List.length_append, h.1]; rfl, fun i u y a b => ?_⟩
  by_cases hi : i < ws.length
  · rw [List.getElem?_append_left hi] at a
    rw [List.getElem?_append_left (by rw [← h.1]; exact hi)] at b
    exact h.2 i u y a b
  · rw [List.getElem?_append_right (by omega)] at a
    rw [List.getElem?_append_right (by rw [← h.1]; omega), ← h.1] at b
    have hj : i - ws.length = 0 := by
      have := (List.getElem?_eq_some_iff.mp a).1
      simp only [List.length_cons, List.length_nil] at this
      omega
    rw [hj] at a b
    cases a
    cases b
    exact k
def EarAt (H : Hp) (v : V) (l : List Int) : Prop := ∃ h : Addr, v = .ref h ∧ H h = some (.tup (l.map V.int))
theorem EarAt.mono {H H' : Hp} (e : Ex H H') {v : V} {l : List Int} (h : EarAt H v l) : EarAt H' v l := by
  obtain ⟨a, e1, h1⟩ := h
  exact ⟨a, e1, e _ _ h1⟩
theorem EarAt.upd {H : Hp} {D : Addr} {acc : List V} {o : HO} (hD : H D = some (.lst acc)) {v : V} {l : List Int} (h : EarAt H v l) : EarAt (upd H D o) v l := by
  obtain ⟨a, e1, h1⟩ := h
  refine ⟨a, e1, ?_⟩
  rw [upd_ne (fun z => by rw [z, hD] at h1; cases h1)]
  exact h1

/-! ### rows (owner, ear) -/
abbrev Rw : Type := Int × List Int
def RowAt (H : Hp) (v : V) (r : Rw) : Prop := ∃ t m : Addr, v = .ref t ∧ H t = some (.tup [.int r.1, .ref m]) ∧ H m = some (.tup (r.2.map V.int))
theorem RowAt.mono {H H' : Hp} (e : Ex H H') {v : V} {r : Rw} (h : RowAt H v r) : RowAt H' v r := by
  obtain ⟨t, m, e1, h1, h2⟩ := h
  exact ⟨t, m, e1, e _ _ h1, e _ _ h2⟩
theorem RowAt.upd {H : Hp} {D : Addr} {acc : List V} {o : HO} (hD : H D = some (.lst acc)) {v : V} {r : Rw} (h : RowAt H v r) : RowAt (upd H D o) v r := by
  obtain ⟨t, m, e1, h1, h2⟩ := h
  refine ⟨t, m, e1, ?_, ?_⟩
  · rw [upd_ne (fun z => by rw [z, hD] at h1; cases h1)]
    exact h1
  · rw [upd_ne (fun z => by rw [z, hD] at h2; cases h2)]
    exact h2
def RowOk (r : Rw) : Prop := 1 ≤ r.1 ∧ EarL r.2
/-- what the law hands in as rows -/
structure Tab (R : List Rw) : Prop where
  len : R.length ≤ 128
  ok : ∀ r ∈ R, RowOk r
  few : ∃ D : List Rw, D.length ≤ 64 ∧ ∀ r ∈ R, r ∈ D
theorem Tab.sub {R S : List Rw} (h : Tab R) (hs : ∀ r ∈ S, r ∈ R) (hl : S.length ≤ 128) : Tab S := by
  obtain ⟨D, d1, d2⟩ := h.few
  exact ⟨hl, fun r hr => h.ok r (hs r hr), D, d1, fun r hr => d2 r (hs r hr)⟩
theorem All2.get {α : Type} {R : V → α → Prop} {ws : List V} {L : List α} (h : All2 R ws L) {i : Nat} {v : V} (g : ws[i]? = some v) : ∃ x, L[i]? = some x ∧ R v x := by
  have hi := (List.getElem?_eq_some_iff.mp g).1
  have hi' : i < L.length := by
    rw [← h.1]
    exact hi
  exact ⟨L[i], List.getElem?_eq_getElem hi', h.2 i v _ g (List.getElem?_eq_getElem hi')⟩
theorem All2.mem {α : Type} {R : V → α → Prop} {ws : List V} {L : List α} (h : All2 R ws L) {v : V} (m : v ∈ ws) : ∃ x, x ∈ L ∧ R v x := by
  obtain ⟨i, hi, e⟩ := List.getElem_of_mem m
  obtain ⟨x, g, r⟩ := h.get (List.getElem?_eq_some_iff.mpr ⟨hi, e⟩)
  exact ⟨x, List.mem_of_getElem? g, r⟩
theorem All2.take {α : Type} {R : V → α → Prop} {ws : List V} {L : List α} (h : All2 R ws L) (n : Nat) : All2 R (ws.take n) (L.take n) := by
  refine ⟨by rw [List.length_take, List.length_take, h.1], fun i v x a b => ?_⟩
  rw [List.getElem?_take] at a b
  by_cases c : i < n
  · rw [if_pos c] at a b
    exact h.2 i v x a b
  · rw [if_neg c] at a
    cases a
theorem All2.drop {α : Type} {R : V → α → Prop} {ws : List V} {L : List α} (h : All2 R ws L) (n : Nat) : All2 R (ws.drop n) (L.drop n) := by
  refine ⟨by rw [List.length_drop, List.length_drop, h.1], fun i v x a b => ?_⟩
  rw [List.getElem?_drop] at a b
  exact h.2 _ v x a b
theorem All2.app {α : Type} {R : V → α → Prop} {ws us : List V} {L M : List α} (h : All2 R ws L) (k : All2 R us M) : All2 R (ws ++ us) (L ++ M) := by
  refine ⟨by rw [List.length_append, List.length_append, h.1, k.1], fun i v x a b => ?_⟩
  by_cases hi : i < ws.length
  · rw [List.getElem?_append_left hi] at a
    rw [List.getElem?_append_left (by rw [← h.1]; exact hi)] at b
    exact h.2 i v x a b
  · rw [List.getElem?_append_right (by omega)] at a
    rw [List.getElem?_append_right (by rw [← h.1]; omega), ← h.1] at b
    exact k.2 _ v x a b
theorem All2.rev {α : Type} {R : V → α → Prop} {ws : List V} {L : List α} (h : All2 R ws L) : All2 R ws.reverse L.reverse := by
  refine ⟨by rw [List.length_reverse, List.length_reverse, h.1], fun i v x a b => ?_⟩
  have hi := (List.getElem?_eq_some_iff.mp a).1
  rw [List.length_reverse] at hi
  rw [List.getElem?_reverse hi] at a
  rw [List.getElem?_reverse (by rw [← h.1]; exact hi), ← h.1] at b
  exact h.2 _ v x a b
/-- a list's part, of ints -/
theorem cut_ints (ns : List Int) (lo hi : Option Int) : ∃ cs : List Int, cutV (ns.map V.int) lo hi = cs.map V.int ∧ ∀ c ∈ cs, c ∈ ns := by
  refine ⟨(ns.drop (HT.sIx (ns.map V.int).length 0 lo)).take (HT.sIx (ns.map V.int).length (ns.map V.int).length hi - HT.sIx (ns.map V.int).length 0 lo), ?_, fun c hc => List.mem_of_mem_drop (List.mem_of_mem_take hc)⟩
  unfold cutV
  rw [List.map_take, List.map_drop]
theorem cut_between (xs : List V) (i j : Nat) (h : i ≤ j) : cutV xs (some (i : Int)) (some (j : Int)) = (xs.drop i).take (j - i) := by
  unfold cutV
  rw [HT.sIx_nat, HT.sIx_nat]
  by_cases c : i ≤ xs.length
  · rw [show min i xs.length = i by omega]
    by_cases d : j ≤ xs.length
    · rw [show min j xs.length = j by omega]
    · rw [show min j xs.length = xs.length by omega, List.take_of_length_le (by rw [List.length_drop]; omega), List.take_of_length_le (by rw [List.length_drop]; omega)]
  · rw [List.drop_eq_nil_of_le (by omega : xs.length ≤ min i xs.length), List.drop_eq_nil_of_le (by omega : xs.length ≤ i)]
    rw [List.take_nil, List.take_nil]
theorem cut_14 (ns : List Int) {i : Int} (h : 0 ≤ i) : ∃ cs : List Int, cutV (ns.map V.int) (some i) (some (i + 14)) = cs.map V.int ∧ cs.length ≤ 14 := by
  refine ⟨(ns.drop i.toNat).take 14, ?_, by rw [List.length_take]; omega⟩
  have e := cut_between (ns.map V.int) i.toNat (i.toNat + 14) (by omega)
  rw [show ((i.toNat : Nat) : Int) = i by omega, show (((i.toNat + 14 : Nat)) : Int) = i + 14 by omega] at e
  rw [e, List.map_take, List.map_drop, show i.toNat + 14 - i.toNat = 14 by omega]
theorem cut_39 {xs : List Int} (hl : (xs.length : Int) = 10) (hb : ∀ x ∈ xs, 0 ≤ x ∧ x < 10) : cutV (xs.map V.int) (some 3) (some 9) = ((xs.drop 3).take 6).map V.int ∧ EarL ((xs.drop 3).take 6) := by
  refine ⟨?_, by rw [List.length_take, List.length_drop]; omega, fun x hx => ?_⟩
  · have e := cut_between (xs.map V.int) 3 9 (by omega)
    rw [List.map_take, List.map_drop]
    exact e
  · have := hb x (List.mem_of_mem_drop (List.mem_of_mem_take hx))
    omega
theorem at_10 {xs : List Int} (hl : (xs.length : Int) = 10) (j : Nat) (hj : j < 10) : ∃ v, atI (xs.map V.int) (j : Int) = some (.int v) ∧ v ∈ xs := by
  have h6 : j < xs.length := by omega
  exact ⟨xs[j], at_of (j := j) rfl (by rw [List.getElem?_map, List.getElem?_eq_getElem h6]; rfl), List.getElem_mem h6⟩

/-! ### comprehensions over lists whose items stand for others -/
def EvR (te : TE) (σ : L2.St) (H : Hp) (P : List V → Hp → Prop) : Prop := ∀ H1, Ex H H1 → ∀ Q : VK, (∀ p H2 us, Ex H1 H2 → H2 p = some (.lst us) → P us H2 → Q (.ref p) H2) → te σ H1 Q
def EvM (te : TE) (σ : L2.St) (H : Hp) (P : List V → Hp → Prop) : Prop := ∀ H1, Ex H H1 → ∀ Q : VK, (∀ p H2 us, H1 p = none → Ex H1 H2 → H2 p = some (.lst us) → P us H2 → Q (.ref p) H2) → te σ H1 Q
structure Stay {α : Type} (Rel : Hp → V → α → Prop) : Prop where
  mono : ∀ {H H' : Hp} {v : V} {x : α}, Ex H H' → Rel H v x → Rel H' v x
  upd : ∀ {H : Hp} {D : Addr} {acc : List V} {o : HO} {v : V} {x : α}, H D = some (.lst acc) → Rel H v x → Rel (upd H D o) v x
theorem All2.mono {α : Type} {Rel : Hp → V → α → Prop} (S : Stay Rel) {H H' : Hp} (e : Ex H H') {ws : List V} {L : List α} (h : All2 (Rel H) ws L) : All2 (Rel H') ws L := h.imp fun _ _ r => S.mono e r
theorem All2.upd {α : Type} {Rel : Hp → V → α → Prop} (S : Stay Rel) {H : Hp} {D : Addr} {acc : List V} {o : HO} (hD : H D = some (.lst acc)) {ws : List V} {L : List α} (h : All2 (Rel H) ws L) : All2 (Rel (upd H D o)) ws L := h.imp fun _ _ r => S.upd hD r
theorem stay_ear : Stay EarAt := ⟨fun e h => h.mono e, fun hD h => h.upd hD⟩
theorem stay_row : Stay RowAt := ⟨fun e h => h.mono e, fun hD h => h.upd hD⟩
/-- scalars -/
def ValAt {α : Type} (g : α → V) (_ : Hp) (v : V) (x : α) : Prop := v = g x
theorem stay_val {α : Type} (g : α → V) : Stay (ValAt g) := ⟨fun _ h => h, fun _ h => h⟩
theorem all_val {α : Type} {g : α → V} {H : Hp} : ∀ {ws : List V} {L : List α}, All2 (ValAt g H) ws L → ws = L.map g
  | [], [], _ => rfl
  | [], _ :: _, h => nomatch h.1
  | _ :: _, [], h => nomatch h.1
  | w :: ws, x :: L, h => by
    have e : w = g x := h.2 0 w x rfl rfl
    rw [List.map_cons, ← all_val (ws := ws) (L := L) ⟨Nat.succ.inj h.1, fun i v y a b => h.2 (i + 1) v y a b⟩, e]
theorem val_all {α : Type} {g : α → V} {H : Hp} (L : List α) : All2 (ValAt g H) (L.map g) L := ⟨by rw [List.length_map], fun i v x a b => by
  rw [List.getElem?_map, b] at a
  exact (Option.some.inj a).symm⟩
theorem filt_next2 {α : Type} {L : List α} {n : Nat} {x : α} (g : L[n]? = some x) (f : α → Bool) : (L.take (n + 1)).filter f = (L.take n).filter f ++ (if f x = true then [x] else []) := by
  rw [List.take_add_one, g, List.filter_append]
  congr 1
  by_cases h : f x = true
  · rw [if_pos h]
    simp [h]
  · rw [if_neg h]
    simp [h]
section
variable {K : PySem.W.Frag} {σ : L2.St} {H : Hp} {te tl : TE} {tt : TT} {vs : List Nat} {α : Type}
theorem er_var {i : Nat} {b : Addr} {ws : List V} {P : List V → Hp → Prop} (h : σ[i]? = some (some (.ref b))) (hb : H b = some (.lst ws)) (hP : ∀ H', Ex H H' → P ws H') : EvR (tVar i) σ H P := fun H1 e Q q => ⟨_, h, q b H1 ws (Ex.refl H1) (e _ _ hb) (hP H1 e)⟩
theorem EvM.r {P : List V → Hp → Prop} (h : EvM te σ H P) : EvR te σ H P := fun H1 e Q q => h H1 e Q fun p H2 us _ a b c => q p H2 us a b c
theorem EvM.imp {P R : List V → Hp → Prop} (h : EvM te σ H P) (k : ∀ us H', P us H' → R us H') : EvM te σ H R := fun H1 e Q q => h H1 e Q fun p H2 us n a b c => q p H2 us n a b (k us H2 c)
/-- [e for g in l if t] -/
theorem em_list {L : List α} {P : Hp → V → α → Prop} {g : TG} (Rel : Hp → V → α → Prop) (SR : Stay Rel) (SP : Stay P) (c : α → Bool) (h : EvR tl σ H (fun ws H1 => All2 (P H1) ws L)) (hz : L.length ≤ 5000)
    (turn : ∀ x ∈ L, ∀ (v : V) (H' : Hp), Ex H H' → P H' v x → ∀ (Qy : VK) (Qn : Hp → Prop), (c x = true → ∀ y H2, Ex H' H2 → Rel H2 y x → Qy y H2) → (c x = false → ∀ H2, Ex H' H2 → Qn H2) →
      g v (wipe σ vs) H' fun σ2 H2 => wipe σ2 vs = wipe σ vs ∧ tt σ2 H2 fun b H3 => if b = true then te σ2 H3 Qy else Qn H3) :
    EvM (tLc (iList K tl) g tt te vs) σ H (fun us H2 => All2 (Rel H2) us (L.filter c)) := fun H0 e0 Q q => h H0 e0 _ fun b H1 ws e1 hb hA => by
  refine ⟨b, rfl, ⟨ws, sq_of hb⟩, fun D hD => ?_⟩
  have f1 := e0.trans e1
  refine lc_it (walk_list (K := K) (a := b) (xs := ws)) (fun n Ha => Ex H1 Ha ∧ ∃ us, Ha D = some (.lst us) ∧ All2 (Rel Ha) us ((L.take n).filter c)) ⟨Ex.new hD, [], upd_same, All2.nil⟩ (fun n Ha _ p => sq_of (p.1 _ _ hb)) ?_ ?_
  · rintro n v Ha Hb hn ⟨ea, us, hu, hU⟩ ⟨rfl, gw⟩
    obtain ⟨x, gx, rx⟩ := hA.get gw
    have hn' : n < L.length := (List.getElem?_eq_some_iff.mp gx).1
    refine turn x (List.mem_of_getElem? gx) v _ (f1.trans ea) (SP.mono ea rx) _ _ (fun hc y H2 e2 ry => ?_) (fun hc H2 e2 => ?_)
    · have hu2 := e2 _ _ hu
      refine ⟨us, hu2, sz_lt ?_, Ex.mut (ea.trans e2) hD, us ++ [y], upd_same, ?_⟩
      · rw [hU.1]
        have t1 := List.length_filter_le c (L.take n)
        have t2 : (L.take n).length ≤ L.length := by
          rw [List.length_take]
          omega
        omega
      · rw [filt_next2 gx, if_pos hc]
        exact All2.snoc (All2.upd SR hu2 (All2.mono SR e2 hU)) (SR.upd hu2 ry)
    · refine ⟨ea.trans e2, us, e2 _ _ hu, ?_⟩
      rw [filt_next2 gx, if_neg (by rw [hc]; exact Bool.false_ne_true), List.append_nil]
      exact All2.mono SR e2 hU
  · rintro Ha ⟨ea, us, hu, hU⟩
    rw [hA.1, List.take_of_length_le (Nat.le_refl _)] at hU
    exact q D Ha us (fresh_back e1 hD) (e1.trans ea) hu hU
/-- [e for g in range(n) if t] -/
theorem em_rng1 {ta : TA} {g : TG} {n : Int} (Rel : Hp → V → Nat → Prop) (SR : Stay Rel) (c : Nat → Bool) (h : EvA ta σ H [.int n]) (hn : 0 ≤ n ∧ n ≤ 5000)
    (turn : ∀ x, x < n.toNat → ∀ (H' : Hp), Ex H H' → ∀ (Qy : VK) (Qn : Hp → Prop), (c x = true → ∀ y H2, Ex H' H2 → Rel H2 y x → Qy y H2) → (c x = false → ∀ H2, Ex H' H2 → Qn H2) →
      g (.int (x : Int)) (wipe σ vs) H' fun σ2 H2 => wipe σ2 vs = wipe σ vs ∧ tt σ2 H2 fun b H3 => if b = true then te σ2 H3 Qy else Qn H3) :
    EvM (tLc (iRng1 ta) g tt te vs) σ H (fun us H2 => All2 (Rel H2) us ((List.range n.toNat).filter c)) := fun H0 e0 Q q => h H0 e0 _ fun H1 e1 => by
  refine ⟨n, rfl, by omega, by omega, fun D hD => ?_⟩
  have f1 := e0.trans e1
  have hr : ∀ k, k ≤ n.toNat → (List.range n.toNat).take k = List.range k := fun k hk => by
    rw [List.take_range]
    congr 1
    omega
  refine lc_it (walk_range (lo := 0) (n := n.toNat)) (fun k Ha => Ex H1 Ha ∧ ∃ us, Ha D = some (.lst us) ∧ All2 (Rel Ha) us (((List.range n.toNat).take k).filter c)) ⟨Ex.new hD, [], upd_same, All2.nil⟩ (fun _ _ _ _ => trivial) ?_ ?_
  · rintro k v Ha Hb hk ⟨ea, us, hu, hU⟩ ⟨rfl, rfl⟩
    have gx : (List.range n.toNat)[k]? = some k := by
      rw [List.getElem?_range hk]
    have tn := turn k hk Hb (f1.trans ea)
    rw [← Int.zero_add (k : Int)] at tn
    refine tn _ _ (fun hc y H2 e2 ry => ?_) (fun hc H2 e2 => ?_)
    · have hu2 := e2 _ _ hu
      refine ⟨us, hu2, sz_lt ?_, Ex.mut (ea.trans e2) hD, us ++ [y], upd_same, ?_⟩
      · rw [hU.1]
        have t1 := List.length_filter_le c ((List.range n.toNat).take k)
        rw [hr k (by omega), List.length_range] at t1
        rw [hr k (by omega)]
        omega
      · rw [filt_next2 gx, if_pos hc]
        exact All2.snoc (All2.upd SR hu2 (All2.mono SR e2 hU)) (SR.upd hu2 ry)
    · refine ⟨ea.trans e2, us, e2 _ _ hu, ?_⟩
      rw [filt_next2 gx, if_neg (by rw [hc]; exact Bool.false_ne_true), List.append_nil]
      exact All2.mono SR e2 hU
  · rintro Ha ⟨ea, us, hu, hU⟩
    rw [hr _ (Nat.le_refl _)] at hU
    exact q D Ha us (fresh_back e1 hD) (e1.trans ea) hu hU
/-- some int -/
def IntAt {α : Type} (_ : Hp) (v : V) (_ : α) : Prop := ∃ i : Int, v = .int i
theorem stay_int {α : Type} : Stay (IntAt (α := α)) := ⟨fun _ h => h, fun _ h => h⟩
theorem all_int {α : Type} {H : Hp} : ∀ {ws : List V} {L : List α}, All2 (IntAt H) ws L → ∃ is : List Int, ws = is.map V.int ∧ is.length = L.length
  | [], [], _ => ⟨[], rfl, rfl⟩
  | [], _ :: _, h => nomatch h.1
  | _ :: _, [], h => nomatch h.1
  | w :: ws, x :: L, h => by
    obtain ⟨i, e⟩ : IntAt H w x := h.2 0 w x rfl rfl
    obtain ⟨is, e1, e2⟩ := all_int (ws := ws) (L := L) ⟨Nat.succ.inj h.1, fun i v y a b => h.2 (i + 1) v y a b⟩
    exact ⟨i :: is, by rw [e, e1]; rfl, by rw [List.length_cons, List.length_cons, e2]⟩
theorem q_asgM {i : Nat} {D : Ends} {tz : TS} {P : List V → Hp → Prop} (h : EvM te σ H P) (k : ∀ p H1 us, H p = none → Ex H H1 → H1 p = some (.lst us) → P us H1 → tz D (σ.set i (some (.ref p))) H1) : tSeq (tAsg te (gName i)) tz D σ H := h H (Ex.refl H) _ fun p H1 us n e a b => k p H1 us n e a b
theorem s_retM {D : Ends} {P : List V → Hp → Prop} (h : EvM te σ H P) (k : ∀ p H1 us, H p = none → Ex H H1 → H1 p = some (.lst us) → P us H1 → D.rt (.ref p) H1) : tRet te D σ H := h H (Ex.refl H) _ k
theorem q_callM {i : Nat} {D : Ends} {tz : TS} {sp : Sp} {X : XK} {P : List V → Hp → Prop} (h : EvM te σ H P) (k : ∀ p H1 us, H p = none → Ex H H1 → H1 p = some (.lst us) → P us H1 → sp [.ref p] H1 (fun v H2 => tz D (σ.set i (some v)) H2) X) : tSeq (tAsg (tCall sp [] X (tCons te tNil)) (gName i)) tz D σ H := h H (Ex.refl H) _ fun p H1 us n e a b => k p H1 us n e a b
theorem filter_yes (L : List α) : L.filter (fun _ => true) = L := List.filter_eq_self.mpr fun _ _ => rfl
theorem ev_anyM {bs : List Bool} (h : EvR te σ H (fun us _ => us = bs.map V.bl)) : Ev (tCB (rAny K) (tCons te tNil)) σ H (.bl (bs.any id)) := fun H1 e Q q =>
  h H1 e _ fun p H2 us e2 h2 hu => ⟨p, bs, rfl, sq_of (by rw [h2, hu]), q H2 e2⟩
end
/-- for a, b in rows -/
theorem turn_two {K : PySem.W.Frag} {i j : Nat} {v : V} {r : Rw} {σ : L2.St} {H : Hp} {Q : L2.St → Hp → Prop} (h : RowAt H v r) (q : ∀ m, H m = some (.tup (r.2.map V.int)) → Q ((σ.set i (some (.int r.1))).set j (some (.ref m))) H) : gTwo K i j v σ H Q := by
  obtain ⟨t, m, rfl, h1, h2⟩ := h
  exact gTwo_at h1 (q m h2)

/-! ### objects: a method that may raise, called within try -/
section
variable {X : Cx} {CX : CXT} {k : Nat} {f C : Addr} {fd : FuncData} {ps : List Str} {sp : Sp} {E : L2.St → XK} {m : Str} {apos pos : Pos} {o e : Expr} {es : List Expr} {ta : TE} {t : TA}
def tMethT (C : Addr) (m : Str) (sp : Sp) (E : L2.St → XK) (ta : TE) (t : TA) : TE := fun σ H Q => ta σ H fun x H1 => ∃ (a dx : Addr) (fs : List (Str × V)), x = .ref a ∧ H1 a = some (.ins C dx fs) ∧ fs.lookup m = none ∧ t σ H1 fun vs H2 => sp (x :: vs) H2 Q (E σ)
theorem pe_methT {pl : Sem Bool} (ho : PE X o ta) (c : Cls X.K C) (hm : Meth X.K C m f) (F : FnOk X.prog X.w X.K X.mg X.base CX k f fd ps sp) (hr : Room k X.A) (hb : Binds X.K fd ps []) (hx : ∀ σ, PassesAt CX X σ (E σ)) (ha : PA X (e :: es) t)
    (h1 : starEach (e :: es) X.env = (false, eval e X.env) :: starEach es X.env := by rfl) (h2 : (backTo pos (starEach es X.env)).any (·.1) = false := by rfl)
    (h3 : eval (.Call (.Attribute o m apos) (e :: es) [] pos) X.env = (do
      let ov ← eval o X.env
      standAt apos.atName
      let (g, first) ← holding [ov] (getMethod ov m pl)
      callWith pos g first (backTo pos (starEach (e :: es) X.env)) (backToKw pos (keywordEach [] X.env))) := by rfl) :
    PE X (.Call (.Attribute o m apos) (e :: es) [] pos) (tMethT C m sp E ta t) := by
  refine ⟨fun pins s σ H Q I h => ?_⟩
  refine PySem.W.methodCall_KW (pl := pl) (thn (ho.run pins s σ H _ I h) fun u s1 ⟨x, G, J, rx, a, dx, fs, ex, ea, l, q⟩ => ?_) h3
  subst ex
  cases rx
  refine getmeth_ok J ea c hm l ?_
  refine PySem.W.callWith_K (first := [.ref a]) (h₀ := X.base) I.ok.mod.kin hm.kp (thn (ha.run pos pins s1 σ G _ J q) fun us s2 ⟨vs, G2, J2, r, q2⟩ => ⟨J2.kIn, ?_⟩) h1 h2
  exact run_fnS (us := .ref a :: us) (vs := .ref a :: vs) F hr hb (hx σ) J2 (.cons rfl r) q2
end

/-! ### a Grounds, as it stands in memory -/
def gF (da dc : Addr) : List (Str × V) := putF ("circles" : Str) (.ref dc) (putF ("allowances" : Str) (.ref da) [])
theorem gF_al (da dc : Addr) : (gF da dc).lookup ("allowances" : Str) = some (.ref da) := by
  unfold gF
  rw [lookup_putF, if_neg (by decide +kernel), lookup_putF, if_pos rfl]
theorem gF_ci (da dc : Addr) : (gF da dc).lookup ("circles" : Str) = some (.ref dc) := by
  unfold gF
  rw [lookup_putF, if_pos rfl]
theorem gF_no (da dc : Addr) {m : Str} (h1 : ¬ m = ("circles" : Str)) (h2 : ¬ m = ("allowances" : Str)) : (gF da dc).lookup m = none := by
  unfold gF
  rw [lookup_putF, if_neg h1, lookup_putF, if_neg h2]
  rfl
/-- at p stands a Grounds: its allowances, and for each ground its circle -/
structure GrAt (C : Addr) (H : Hp) (p da dc : Addr) (al : List Int) (ci : List (List Int)) : Prop where
  ob : ∃ dx, H p = some (.ins C dx (gF da dc))
  la : H da = some (.lst (al.map V.int))
  lc : ∃ us, H dc = some (.lst us) ∧ All2 (EarAt H) us ci
  ne : da ≠ dc
theorem GrAt.mono {C : Addr} {H H' : Hp} (e : Ex H H') {p da dc : Addr} {al : List Int} {ci : List (List Int)} (g : GrAt C H p da dc al ci) : GrAt C H' p da dc al ci := by
  obtain ⟨⟨dx, ob⟩, la, ⟨us, h1, h2⟩, ne⟩ := g
  exact ⟨⟨dx, e _ _ ob⟩, e _ _ la, ⟨us, e _ _ h1, h2.imp fun _ _ r => r.mono e⟩, ne⟩
/-- what is left as it was but for a Grounds' two lists -/
def ExG (da dc : Addr) (H H' : Hp) : Prop := ∀ b o, H b = some o → b ≠ da → b ≠ dc → H' b = some o
/-- the circles as they must lie -/
structure GrOk (al : List Int) (ci : List (List Int)) : Prop where
  len : ci.length = al.length
  inn : ∀ (i : Nat) (c : List Int), ci[i]? = some c → c ≠ [] ∧ ∀ k ∈ c, 1 ≤ k ∧ k ≤ (al.length : Int)
  alw : ∀ x ∈ al, 0 ≤ x ∧ x ≤ 9

/-! ### the text -/
def topS (i : Nat) : Stmt := PySem.Challenge.pw_earmarks_k12_grounds_numbered.main.body.getD i (.Pass ⟨0, 0, 0, 0⟩)
abbrev s_Grounds_init : Stmt := inClass (topS 7) 0
abbrev s_cut : Stmt := topS 14
abbrev s_whole : Stmt := topS 9
abbrev s_like : Stmt := topS 10
abbrev s_Grounds_many : Stmt := inClass (topS 7) 3
abbrev s_Grounds_add_ground : Stmt := inClass (topS 7) 1
abbrev s_added : Stmt := topS 12
abbrev s_cell : Stmt := topS 11
abbrev s_Grounds_has : Stmt := inClass (topS 7) 2
abbrev s_Grounds_need : Stmt := inClass (topS 7) 4
abbrev s_Grounds_allowance : Stmt := inClass (topS 7) 5
abbrev s_Grounds_together : Stmt := inClass (topS 7) 6
abbrev s_Grounds_room : Stmt := inClass (topS 7) 7
abbrev s_told : Stmt := topS 13
abbrev s_law : Stmt := topS 15
theorem sc_Grounds_init : FnScope ["self"] ["self"] (defScope s_Grounds_init) := ⟨rfl, rfl, rfl, by decide +kernel, rfl, by decide +kernel, by decide +kernel⟩
theorem sc_cut : FnScope ["_law_cell_here"] ["_law_cell_here"] (defScope s_cut) := ⟨rfl, rfl, rfl, by decide +kernel, rfl, by decide +kernel, by decide +kernel⟩
theorem sc_whole : FnScope ["_law_found"] ["_law_found"] (defScope s_whole) := ⟨rfl, rfl, rfl, by decide +kernel, rfl, by decide +kernel, by decide +kernel⟩
theorem sc_like : FnScope ["_law_found", "_law_due", "_law_one", "_law_other"] ["_law_found", "_law_due"] (defScope s_like) := ⟨rfl, rfl, rfl, by decide +kernel, rfl, by decide +kernel, by decide +kernel⟩
theorem sc_Grounds_many : FnScope ["self"] ["self"] (defScope s_Grounds_many) := ⟨rfl, rfl, rfl, by decide +kernel, rfl, by decide +kernel, by decide +kernel⟩
theorem sc_Grounds_add_ground : FnScope ["self", "allowance"] ["self", "allowance"] (defScope s_Grounds_add_ground) := ⟨rfl, rfl, rfl, by decide +kernel, rfl, by decide +kernel, by decide +kernel⟩
theorem sc_added : FnScope ["_law_lands", "_law_allowance", "_law_told_here"] ["_law_lands", "_law_allowance"] (defScope s_added) := ⟨rfl, rfl, rfl, by decide +kernel, rfl, by decide +kernel, by decide +kernel⟩
theorem sc_cell : FnScope ["_law_script", "_law_k"] ["_law_script", "_law_k"] (defScope s_cell) := ⟨rfl, rfl, rfl, by decide +kernel, rfl, by decide +kernel, by decide +kernel⟩
theorem sc_Grounds_has : FnScope ["self", "ground"] ["self", "ground"] (defScope s_Grounds_has) := ⟨rfl, rfl, rfl, by decide +kernel, rfl, by decide +kernel, by decide +kernel⟩
theorem sc_Grounds_need : FnScope ["self", "ground"] ["self", "ground"] (defScope s_Grounds_need) := ⟨rfl, rfl, rfl, by decide +kernel, rfl, by decide +kernel, by decide +kernel⟩
theorem sc_Grounds_allowance : FnScope ["self", "ground"] ["self", "ground"] (defScope s_Grounds_allowance) := ⟨rfl, rfl, rfl, by decide +kernel, rfl, by decide +kernel, by decide +kernel⟩
theorem sc_Grounds_together : FnScope ["self", "ground"] ["self", "ground"] (defScope s_Grounds_together) := ⟨rfl, rfl, rfl, by decide +kernel, rfl, by decide +kernel, by decide +kernel⟩
theorem sc_Grounds_room : FnScope ["self", "ground", "near"] ["self", "ground"] (defScope s_Grounds_room) := ⟨rfl, rfl, rfl, by decide +kernel, rfl, by decide +kernel, by decide +kernel⟩
theorem sc_told : FnScope ["_law_lands", "_law_ground", "_law_way", "_law_told_here"] ["_law_lands", "_law_ground", "_law_way"] (defScope s_told) := ⟨rfl, rfl, rfl, by decide +kernel, rfl, by decide +kernel, by decide +kernel⟩
theorem sc_law : FnScope ["_law_script", "_law_lands", "_law_given", "_law_cell_here", "_law_allowance", "_law_told_here", "_law_ground", "_law_there", "_law_way"] ["_law_script"] (defScope s_law) := ⟨rfl, rfl, rfl, by decide +kernel, rfl, by decide +kernel, by decide +kernel⟩
structure Txt (K : PySem.W.Frag) (mg : Str → Option Value) where
  C_Grounds : Addr
  g_Grounds : mg "Grounds" = some (.ref C_Grounds)
  cl_Grounds : Cls K C_Grounds
  na_Grounds_allowances : NoAttr K C_Grounds "allowances"
  na_Grounds_circles : NoAttr K C_Grounds "circles"
  f_Grounds_init : Addr
  fd_Grounds_init : FuncData
  F_Grounds_init : Fun K "__init__" "Grounds.__init__" s_Grounds_init f_Grounds_init fd_Grounds_init
  b_Grounds_init : Binds K fd_Grounds_init ["self"] []
  t_Grounds_init : Mk K C_Grounds f_Grounds_init
  f_cut : Addr
  fd_cut : FuncData
  F_cut : Fun K "_law_cut" "_law_cut" s_cut f_cut fd_cut
  b_cut : Binds K fd_cut ["_law_cell_here"] []
  g_cut : mg "_law_cut" = some (.ref f_cut)
  f_whole : Addr
  fd_whole : FuncData
  F_whole : Fun K "_law_whole" "_law_whole" s_whole f_whole fd_whole
  b_whole : Binds K fd_whole ["_law_found"] []
  g_whole : mg "_law_whole" = some (.ref f_whole)
  f_like : Addr
  fd_like : FuncData
  F_like : Fun K "_law_like" "_law_like" s_like f_like fd_like
  b_like : Binds K fd_like ["_law_found", "_law_due"] []
  g_like : mg "_law_like" = some (.ref f_like)
  f_Grounds_many : Addr
  fd_Grounds_many : FuncData
  F_Grounds_many : Fun K "many" "Grounds.many" s_Grounds_many f_Grounds_many fd_Grounds_many
  b_Grounds_many : Binds K fd_Grounds_many ["self"] []
  t_Grounds_many : Meth K C_Grounds "many" f_Grounds_many
  f_Grounds_add_ground : Addr
  fd_Grounds_add_ground : FuncData
  F_Grounds_add_ground : Fun K "add_ground" "Grounds.add_ground" s_Grounds_add_ground f_Grounds_add_ground fd_Grounds_add_ground
  b_Grounds_add_ground : Binds K fd_Grounds_add_ground ["self", "allowance"] []
  t_Grounds_add_ground : Meth K C_Grounds "add_ground" f_Grounds_add_ground
  f_added : Addr
  fd_added : FuncData
  F_added : Fun K "_law_added" "_law_added" s_added f_added fd_added
  b_added : Binds K fd_added ["_law_lands", "_law_allowance"] []
  g_added : mg "_law_added" = some (.ref f_added)
  f_cell : Addr
  fd_cell : FuncData
  F_cell : Fun K "_law_cell" "_law_cell" s_cell f_cell fd_cell
  b_cell : Binds K fd_cell ["_law_script", "_law_k"] []
  g_cell : mg "_law_cell" = some (.ref f_cell)
  f_Grounds_has : Addr
  fd_Grounds_has : FuncData
  F_Grounds_has : Fun K "has" "Grounds.has" s_Grounds_has f_Grounds_has fd_Grounds_has
  b_Grounds_has : Binds K fd_Grounds_has ["self", "ground"] []
  t_Grounds_has : Meth K C_Grounds "has" f_Grounds_has
  f_Grounds_need : Addr
  fd_Grounds_need : FuncData
  F_Grounds_need : Fun K "need" "Grounds.need" s_Grounds_need f_Grounds_need fd_Grounds_need
  b_Grounds_need : Binds K fd_Grounds_need ["self", "ground"] []
  t_Grounds_need : Meth K C_Grounds "need" f_Grounds_need
  f_Grounds_allowance : Addr
  fd_Grounds_allowance : FuncData
  F_Grounds_allowance : Fun K "allowance" "Grounds.allowance" s_Grounds_allowance f_Grounds_allowance fd_Grounds_allowance
  b_Grounds_allowance : Binds K fd_Grounds_allowance ["self", "ground"] []
  t_Grounds_allowance : Meth K C_Grounds "allowance" f_Grounds_allowance
  f_Grounds_together : Addr
  fd_Grounds_together : FuncData
  F_Grounds_together : Fun K "together" "Grounds.together" s_Grounds_together f_Grounds_together fd_Grounds_together
  b_Grounds_together : Binds K fd_Grounds_together ["self", "ground"] []
  t_Grounds_together : Meth K C_Grounds "together" f_Grounds_together
  f_Grounds_room : Addr
  fd_Grounds_room : FuncData
  F_Grounds_room : Fun K "room" "Grounds.room" s_Grounds_room f_Grounds_room fd_Grounds_room
  b_Grounds_room : Binds K fd_Grounds_room ["self", "ground"] []
  t_Grounds_room : Meth K C_Grounds "room" f_Grounds_room
  f_told : Addr
  fd_told : FuncData
  F_told : Fun K "_law_told" "_law_told" s_told f_told fd_told
  b_told : Binds K fd_told ["_law_lands", "_law_ground", "_law_way"] []
  g_told : mg "_law_told" = some (.ref f_told)
  f_law : Addr
  fd_law : FuncData
  F_law : Fun K "law" "law" s_law f_law fd_law
  b_law : Binds K fd_law ["_law_script"] []
  g_law : mg "law" = some (.ref f_law)
  m_isinstance : mg "isinstance" = none
  m_bool : mg "bool" = none
  m_int : mg "int" = none
  m_str : mg "str" = none
  m_tuple : mg "tuple" = none
  m_list : mg "list" = none
  m_len : mg "len" = none
  m_zip : mg "zip" = none
  m_max : mg "max" = none
  m_range : mg "range" = none
  t_GREATEST_ALLOWANCE : Tok
  g_GREATEST_ALLOWANCE : mg "GREATEST_ALLOWANCE" = some (.int 9 t_GREATEST_ALLOWANCE)
  C_BadAllowance : Addr
  g_BadAllowance : mg "BadAllowance" = some (.ref C_BadAllowance)
  x_BadAllowance : PySem.W.excIn K C_BadAllowance [.type "ValueError", .type "Exception", .type "BaseException", .type "object"] "ValueError.__new__" = true
  k_BadAllowance : PySem.W.keepIn K (.ref C_BadAllowance) = true
  b_BadAllowance : PySem.W.subIn K (.ref C_BadAllowance) (.type "BaseException") = some true
  t_BadAllowance : PySem.W.typeIn K (.ref C_BadAllowance) = some (.type "type")
  e_BadAllowance : PySem.W.exmOne K (.ref C_BadAllowance) (.ref C_BadAllowance) = some true
  C_NoGround : Addr
  g_NoGround : mg "NoGround" = some (.ref C_NoGround)
  x_NoGround : PySem.W.excIn K C_NoGround [.type "ValueError", .type "Exception", .type "BaseException", .type "object"] "ValueError.__new__" = true
  k_NoGround : PySem.W.keepIn K (.ref C_NoGround) = true
  b_NoGround : PySem.W.subIn K (.ref C_NoGround) (.type "BaseException") = some true
  t_NoGround : PySem.W.typeIn K (.ref C_NoGround) = some (.type "type")
  e_NoGround : PySem.W.exmOne K (.ref C_NoGround) (.ref C_NoGround) = some true

section
variable {P : Program} {w : World} {K : PySem.W.Frag} {mg : Str → Option Value} {base : Heap}
/-! Grounds.__init__ -/

def sp_Grounds_init (K : PySem.W.Frag) (C : Addr) : Sp := fun vs H Q _ => ∃ (p dx : Addr), vs = [.ref p] ∧ H p = some (.ins C dx []) ∧ ∀ (da dc : Addr) (H' : Hp), H da = none → H dc = none → GrAt C H' p da dc [] [] → (∀ b o, H b = some o → b ≠ p → H' b = some o) → Q .non H'
theorem ok_Grounds_init (T : Txt K mg) : FnOk P w K mg base CX0 1 T.f_Grounds_init T.fd_Grounds_init ["self"] (sp_Grounds_init K T.C_Grounds) := by
  refine T.F_Grounds_init.ok sc_Grounds_init (fun vs H Q E h => ?_) (fun cdv A outer s H vs Q E hr h => ?_)

  · obtain ⟨p, dx, rfl, _⟩ := h
    rfl
  · obtain ⟨p, dx, rfl, hp, q⟩ := h
    refine ⟨_, (pss_cons (ps_fld (pv 0) (pe_lst pa_nil) rfl)
      (pss_one (ps_fld (pv 0) (pe_lst pa_nil) rfl))), ?_⟩
    refine ⟨Nat.zero_le _, fun da na => ?_⟩
    have pa : p ≠ da := ne_of_none hp na
    refine ⟨_, rfl, p, T.C_Grounds, dx, [], rfl, (by rw [upd_ne pa]; exact hp), T.cl_Grounds, T.na_Grounds_allowances, (by show 0 < 1000; decide), ?_⟩
    refine ⟨Nat.zero_le _, fun dc nc => ?_⟩
    have pc : p ≠ dc := fun z => by
      rw [← z, upd_same] at nc
      cases nc
    have nc1 : (upd H da (.lst [])) dc = none := by
      rw [upd_ne (Ne.symm pc)] at nc
      exact nc
    have ac : da ≠ dc := fun z => by
      rw [← z, upd_same] at nc1
      cases nc1
    have nc2 : H dc = none := by
      rw [upd_ne (Ne.symm ac)] at nc1
      exact nc1
    refine ⟨_, rfl, p, T.C_Grounds, dx, _, rfl, (by rw [upd_ne pc]; exact upd_same), T.cl_Grounds, T.na_Grounds_circles, (by show 1 < 1000; decide), ?_⟩
    refine q da dc _ na nc2 ⟨⟨dx, upd_same⟩, ?_, ⟨[], ?_, All2.nil⟩, ac⟩ fun b o hb hbp => ?_
    · rw [upd_ne (Ne.symm pa), upd_ne ac, upd_ne (Ne.symm pa), upd_same]
      rfl
    · rw [upd_ne (Ne.symm pc), upd_same]
    · rw [upd_ne hbp, upd_ne (ne_of_none hb nc2), upd_ne hbp, upd_ne (ne_of_none hb na)]
      exact hb
/-! _law_cut -/

def sp_cut (K : PySem.W.Frag) : Sp := fun vs H Q _ => ∃ c : Int, vs = [.int c] ∧ ∀ d : Int, Q (.int d) H
theorem ok_cut (T : Txt K mg) : FnOk P w K mg base CX0 1 T.f_cut T.fd_cut ["_law_cell_here"] (sp_cut K) := by
  refine T.F_cut.ok sc_cut (fun vs H Q E h => ?_) (fun cdv A outer s H vs Q E hr h => ?_)

  · obtain ⟨c, rfl, _⟩ := h
    rfl
  · obtain ⟨c, rfl, q⟩ := h
    refine ⟨_, (pss_cons (ps_if (pt_cmpR op_lt (pv 0) pe_int (nomark _)) (pss_one (ps_ret (pe_op op_sub pe_int (pe_op op_mod (pe_op op_sub pe_int (pv 0)) (pe_op op_pow pe_int pe_int))))) pss_nil)
      (pss_one (ps_ret (pe_op op_mod (pv 0) (pe_op op_pow pe_int pe_int))))), ?_⟩
    refine ⟨_, rfl, _, _, rfl, rfl, _, rfl, ite2 (fun _ => ?_) (fun _ => ?_)⟩
    · exact ⟨_, rfl, _, _, rfl, rfl, _, _, rfl, rfl, ⟨by decide, by decide, by decide⟩, _, _, rfl, rfl, (by show (0 : Int) < 10 ^ 30; decide), _, _, rfl, rfl, q _⟩
    · exact ⟨_, rfl, _, _, rfl, rfl, ⟨by decide, by decide, by decide⟩, _, _, rfl, rfl, (by show (0 : Int) < 10 ^ 30; decide), q _⟩
/-! _law_whole -/

def sp_whole (K : PySem.W.Frag) : Sp := fun vs H Q _ => ∃ i : Int, vs = [.int i] ∧ Q (.bl true) H
theorem ok_whole (T : Txt K mg) : FnOk P w K mg base CX0 1 T.f_whole T.fd_whole ["_law_found"] (sp_whole K) := by
  refine T.F_whole.ok sc_whole (fun vs H Q E h => ?_) (fun cdv A outer s H vs Q E hr h => ?_)

  · obtain ⟨i, rfl, _⟩ := h
    rfl
  · obtain ⟨i, rfl, q⟩ := h
    refine ⟨_, (pss_one (ps_ret (pe_and (pe_callB call_isi (by rfl) T.m_isinstance (by decide +kernel) (pa_cons (pv 0) (pa_cons (pe_bltn (v := .ty "int") (by rfl) T.m_int (by decide +kernel) rfl) pa_nil))) (pe_one (pe_not (pe_callB call_isi (by rfl) T.m_isinstance (by decide +kernel) (pa_cons (pv 0) (pa_cons (pe_bltn (v := .ty "bool") (by rfl) T.m_bool (by decide +kernel) rfl) pa_nil)))))))), ?_⟩
    refine ⟨_, rfl, _, _, _, _, true, rfl, .ty _, .base (.int i), kit_ty (by decide +kernel), true, rfl, iteT ?_⟩
    exact ⟨_, rfl, _, _, _, _, false, rfl, .ty _, .base (.int i), kit_ty (by decide +kernel), false, rfl, q⟩
/-! _law_like -/

def Sc (v : V) : Prop := v = .non ∨ (∃ b, v = .bl b) ∨ (∃ i, v = .int i) ∨ ∃ s, v = .str s
/-- alike to a depth: scalars, tuples and lists of alike ones -/
def Lk (K : PySem.W.Frag) (H : Hp) : Nat → V → V → Prop
  | 0, _, _ => False
  | n + 1, v, w => (v = w ∧ Sc v) ∨ ∃ (a b : Addr) (xs ys : List V), v = .ref a ∧ w = .ref b ∧ ((SqT K H a xs ∧ SqT K H b ys) ∨ (H a = some (.lst xs) ∧ H b = some (.lst ys))) ∧ xs.length = ys.length ∧ xs.length ≤ 1000 ∧ ∀ p ∈ xs.zip ys, Lk K H n p.1 p.2
theorem Lk.mono {K : PySem.W.Frag} {H H' : Hp} (e : Ex H H') : ∀ (n : Nat) (v w : V), Lk K H n v w → Lk K H' n v w
  | 0, _, _, h => h
  | n + 1, v, w, h => by
    rcases h with h | ⟨a, b, xs, ys, e1, e2, k, hl, hz, r⟩
    · exact Or.inl h
    · refine Or.inr ⟨a, b, xs, ys, e1, e2, ?_, hl, hz, fun p hp => Lk.mono e n _ _ (r p hp)⟩
      rcases k with ⟨k1, k2⟩ | ⟨k1, k2⟩
      · exact Or.inl ⟨ex_t e k1, ex_t e k2⟩
      · exact Or.inr ⟨e _ _ k1, e _ _ k2⟩
theorem Lk.bl {K : PySem.W.Frag} {H : Hp} {n : Nat} {b c : Bool} (h : b = c) : Lk K H (n + 1) (.bl b) (.bl c) := by
  subst h
  exact Or.inl ⟨rfl, Or.inr (Or.inl ⟨b, rfl⟩)⟩
theorem Lk.int {K : PySem.W.Frag} {H : Hp} {n : Nat} {b c : Int} (h : b = c) : Lk K H (n + 1) (.int b) (.int c) := by
  subst h
  exact Or.inl ⟨rfl, Or.inr (Or.inr (Or.inl ⟨b, rfl⟩))⟩
theorem Lk.str {K : PySem.W.Frag} {H : Hp} {n : Nat} {b c : Str} (h : b = c) : Lk K H (n + 1) (.str b) (.str c) := by
  subst h
  exact Or.inl ⟨rfl, Or.inr (Or.inr (Or.inr ⟨b, rfl⟩))⟩
/-- two tuples of the same ints -/
theorem Lk.ints {K : PySem.W.Frag} {H : Hp} {n : Nat} {a b : Addr} {xs ys : List Int} (h1 : TpI K H a xs) (h2 : TpI K H b ys) (h : xs = ys) (hz : xs.length ≤ 1000) : Lk K H (n + 2) (.ref a) (.ref b) := by
  subst h
  refine Or.inr ⟨a, b, _, _, rfl, rfl, Or.inl ⟨h1, h2⟩, rfl, by simpa using hz, fun p hp => ?_⟩
  obtain ⟨v, w⟩ := p
  obtain ⟨x, y, rfl, rfl, m⟩ := zip_ints_mem hp
  obtain ⟨i, hi, e⟩ := List.getElem_of_mem m
  rw [List.getElem_zip] at e
  cases e
  exact Lk.int rfl
def sp_like (K : PySem.W.Frag) (n : Nat) : Sp := fun vs H Q _ => ∃ v w : V, vs = [v, w] ∧ Lk K H n v w ∧ ∀ H', Ex H H' → Q (.bl true) H'
theorem ok_likeS (T : Txt K mg) (n : Nat) (ih : FnOk P w K mg base CX0 (n + 1) T.f_like T.fd_like ["_law_found", "_law_due"] (sp_like K n)) : FnOk P w K mg base CX0 (n + 2) T.f_like T.fd_like ["_law_found", "_law_due"] (sp_like K (n + 1)) := by
  refine T.F_like.ok sc_like (fun vs H Q E h => ?_) (fun cdv A outer s H vs Q E hr h => ?_)

  · obtain ⟨v, w, rfl, _⟩ := h
    rfl
  · obtain ⟨v, u, rfl, hL, q⟩ := h
    refine ⟨_, (pss_cons (ps_if (pt_cmpR op_isN (pv 1) pe_non (nomark _)) (pss_one (ps_ret (pe_cmpR op_isN (pv 0) pe_non (nomark _)))) pss_nil)
      (pss_cons (ps_if (pt_cmpR op_isT (pv 1) pe_bl (nomark _)) (pss_one (ps_ret (pe_cmpR op_isT (pv 0) pe_bl (nomark _)))) pss_nil)
      (pss_cons (ps_if (pt_cmpR op_isT (pv 1) pe_bl (nomark _)) (pss_one (ps_ret (pe_cmpR op_isT (pv 0) pe_bl (nomark _)))) pss_nil)
      (pss_cons (ps_if (pt_val (pe_callB call_isi (by rfl) T.m_isinstance (by decide +kernel) (pa_cons (pv 1) (pa_cons (pe_bltn (v := .ty "int") (by rfl) T.m_int (by decide +kernel) rfl) pa_nil)))) (pss_one (ps_ret (pe_and (pe_call (ok_whole T) (hr.mono (by omega)) (by rfl) T.g_whole T.F_whole.kp T.b_whole .nil pass0 (pa_cons (pv 0) pa_nil)) (pe_one (pe_cmpR op_eq (pv 0) (pv 1) (nomark _)))))) pss_nil)
      (pss_cons (ps_if (pt_val (pe_callB call_isi (by rfl) T.m_isinstance (by decide +kernel) (pa_cons (pv 1) (pa_cons (pe_bltn (v := .ty "str") (by rfl) T.m_str (by decide +kernel) rfl) pa_nil)))) (pss_one (ps_ret (pe_and (pe_callB call_isi (by rfl) T.m_isinstance (by decide +kernel) (pa_cons (pv 0) (pa_cons (pe_bltn (v := .ty "str") (by rfl) T.m_str (by decide +kernel) rfl) pa_nil))) (pe_one (pe_cmpR op_eq (pv 0) (pv 1) (nomark _)))))) pss_nil)
      (pss_cons (ps_if (PW.pt (pw_and (pt_val (pe_callB call_isi (by rfl) T.m_isinstance (by decide +kernel) (pa_cons (pv 1) (pa_cons (pe_bltn (v := .ty "tuple") (by rfl) T.m_tuple (by decide +kernel) rfl) pa_nil)))) (pw_and1 (pt_not (pt_val (pe_callB call_isi (by rfl) T.m_isinstance (by decide +kernel) (pa_cons (pv 0) (pa_cons (pe_bltn (v := .ty "tuple") (by rfl) T.m_tuple (by decide +kernel) rfl) pa_nil)))))))) (pss_one (ps_ret pe_bl)) pss_nil)
      (pss_cons (ps_if (PW.pt (pw_and (pt_val (pe_callB call_isi (by rfl) T.m_isinstance (by decide +kernel) (pa_cons (pv 1) (pa_cons (pe_bltn (v := .ty "list") (by rfl) T.m_list (by decide +kernel) rfl) pa_nil)))) (pw_and1 (pt_not (pt_val (pe_callB call_isi (by rfl) T.m_isinstance (by decide +kernel) (pa_cons (pv 0) (pa_cons (pe_bltn (v := .ty "list") (by rfl) T.m_list (by decide +kernel) rfl) pa_nil)))))))) (pss_one (ps_ret pe_bl)) pss_nil)
      (pss_cons (ps_if (pt_cmpR op_ne (pe_callB call_len_seq (by rfl) T.m_len (by decide +kernel) (pa_cons (pv 0) pa_nil)) (pe_callB call_len_seq (by rfl) T.m_len (by decide +kernel) (pa_cons (pv 1) pa_nil)) (nomark _)) (pss_one (ps_ret pe_bl)) pss_nil)
      (pss_cons (ps_for PassesOwn.never rfl (pi_zipA (by rfl) T.m_zip (pa_cons (pv 0) (pa_cons (pv 1) pa_nil))) (pg_tup rfl (pgs_cons (pg_name (i := 2) sc_like.nd rfl (Or.inl rfl)) (pgs_cons (pg_name (i := 3) sc_like.nd rfl (Or.inl rfl)) pgs_nil))) (pss_one (ps_if (pt_not (pt_val (pe_call ih hr (by rfl) T.g_like T.F_like.kp T.b_like .nil pass0 (pa_cons (pv 2) (pa_cons (pv 3) pa_nil))))) (pss_one (ps_ret pe_bl)) pss_nil)))
      (pss_one (ps_ret pe_bl))))))))))), ?_⟩
    rcases hL with ⟨rfl, rfl | ⟨b, rfl⟩ | ⟨i, rfl⟩ | ⟨z, rfl⟩⟩ | ⟨a, b, xs, ys, rfl, rfl, hk, hl, hz, hr2⟩
    · exact ⟨_, rfl, rfl, _, rfl, iteT ⟨_, rfl, rfl, q H (Ex.refl H)⟩⟩
    · refine ⟨_, rfl, rfl, _, rfl, iteF ?_⟩
      cases b with
      | true => exact ⟨_, rfl, true, rfl, _, rfl, iteT ⟨_, rfl, true, rfl, q H (Ex.refl H)⟩⟩
      | false => exact ⟨_, rfl, true, rfl, _, rfl, iteF ⟨_, rfl, false, rfl, _, rfl, iteT ⟨_, rfl, false, rfl, q H (Ex.refl H)⟩⟩⟩
    · refine ⟨_, rfl, rfl, _, rfl, iteF ⟨_, rfl, true, rfl, _, rfl, iteF ⟨_, rfl, false, rfl, _, rfl, iteF ?_⟩⟩⟩
      refine ⟨_, rfl, _, _, _, _, true, rfl, .ty _, .base (.int i), kit_ty (by decide +kernel), true, rfl, iteT ?_⟩
      refine ⟨_, rfl, i, rfl, true, rfl, iteT ⟨_, rfl, _, rfl, rfl, ?_⟩⟩
      rw [decide_eq_true rfl]
      exact q H (Ex.refl H)
    · refine ⟨_, rfl, rfl, _, rfl, iteF ⟨_, rfl, true, rfl, _, rfl, iteF ⟨_, rfl, false, rfl, _, rfl, iteF ?_⟩⟩⟩
      refine ⟨_, rfl, _, _, _, _, false, rfl, .ty _, .base (.str z), kit_ty (by decide +kernel), false, rfl, iteF ?_⟩
      refine ⟨_, rfl, _, _, _, _, true, rfl, .ty _, .base (.str z), kit_ty (by decide +kernel), true, rfl, iteT ?_⟩
      refine ⟨_, rfl, _, _, _, _, true, rfl, .ty _, .base (.str z), kit_ty (by decide +kernel), true, rfl, iteT ⟨_, rfl, _, rfl, rfl, ?_⟩⟩
      rw [decide_eq_true rfl]
      exact q H (Ex.refl H)
    · refine ⟨_, rfl, rfl, _, rfl, iteF ⟨_, rfl, true, rfl, _, rfl, iteF ⟨_, rfl, false, rfl, _, rfl, iteF ?_⟩⟩⟩
      rcases hk with ⟨k1, k2⟩ | ⟨k1, k2⟩
      · have ta := tyx_tup k1
        have tb := tyx_tup k2
        refine ⟨_, rfl, _, _, _, _, false, rfl, .ty _, tb, kit_ty (by decide +kernel), false, rfl, iteF ?_⟩
        refine ⟨_, rfl, _, _, _, _, false, rfl, .ty _, tb, kit_ty (by decide +kernel), false, rfl, iteF ?_⟩
        refine ⟨_, rfl, _, _, _, _, true, rfl, .ty _, tb, kit_ty (by decide +kernel), true, rfl, iteT ⟨_, rfl, _, _, _, _, true, rfl, .ty _, ta, kit_ty (by decide +kernel), true, rfl, iteF ?_⟩⟩
        refine ⟨_, rfl, _, _, _, _, false, rfl, .ty _, tb, kit_ty (by decide +kernel), false, rfl, iteF (iteF ?_)⟩
        refine ⟨_, rfl, a, xs, rfl, .inr k1, _, rfl, b, ys, rfl, .inr k2, rfl, _, rfl, iteNS (by rw [hl]) ?_⟩
        refine ⟨_, rfl, _, rfl, a, b, xs, ys, rfl, Or.inr ⟨k1, k2, for_it (walkTT hl) (fun i σ' H' => ∃ x' y' : Option V, σ' = [some (.ref a), some (.ref b), x', y'] ∧ Ex H H') ⟨_, _, rfl, Ex.refl H⟩ ?_ ?_ ?_⟩⟩
        · rintro i σ' H' _ ⟨x', y', rfl, e1⟩
          exact ⟨ex_t e1 k1, ex_t e1 k2⟩
        · rintro i v σ' H' H'' hi ⟨x', y', rfl, e1⟩ ⟨T', x, y, rfl, nT, rfl, gx, gy⟩
          refine gTwo_of ?_
          have eT : Ex H (upd H' T' (.tup [x, y])) := e1.trans (Ex.new nT)
          refine ⟨_, rfl, _, rfl, x, y, rfl, Lk.mono eT _ _ _ (hr2 (x, y) (zip_mem gx gy)), fun H3 e3 => ⟨true, rfl, iteF ?_⟩⟩
          exact ⟨_, _, rfl, eT.trans e3⟩
        · rintro σ' H' ⟨x', y', rfl, e1⟩
          exact q H' e1
      · have ta : TyX K H (.ref a) (.type "list") := tyx_lst k1
        have tb : TyX K H (.ref b) (.type "list") := tyx_lst k2
        refine ⟨_, rfl, _, _, _, _, false, rfl, .ty _, tb, kit_ty (by decide +kernel), false, rfl, iteF ?_⟩
        refine ⟨_, rfl, _, _, _, _, false, rfl, .ty _, tb, kit_ty (by decide +kernel), false, rfl, iteF ?_⟩
        refine ⟨_, rfl, _, _, _, _, false, rfl, .ty _, tb, kit_ty (by decide +kernel), false, rfl, iteF (iteF ?_)⟩
        refine ⟨_, rfl, _, _, _, _, true, rfl, .ty _, tb, kit_ty (by decide +kernel), true, rfl, iteT ⟨_, rfl, _, _, _, _, true, rfl, .ty _, ta, kit_ty (by decide +kernel), true, rfl, iteF ?_⟩⟩
        refine ⟨_, rfl, a, xs, rfl, .inl (sq_of k1), _, rfl, b, ys, rfl, .inl (sq_of k2), rfl, _, rfl, iteNS (by rw [hl]) ?_⟩
        refine ⟨_, rfl, _, rfl, a, b, xs, ys, rfl, Or.inl ⟨sq_of k1, sq_of k2, for_it (walkLL hl) (fun i σ' H' => ∃ x' y' : Option V, σ' = [some (.ref a), some (.ref b), x', y'] ∧ Ex H H') ⟨_, _, rfl, Ex.refl H⟩ ?_ ?_ ?_⟩⟩
        · rintro i σ' H' _ ⟨x', y', rfl, e1⟩
          exact ⟨ex_l e1 (sq_of k1), ex_l e1 (sq_of k2)⟩
        · rintro i v σ' H' H'' hi ⟨x', y', rfl, e1⟩ ⟨T', x, y, rfl, nT, rfl, gx, gy⟩
          refine gTwo_of ?_
          have eT : Ex H (upd H' T' (.tup [x, y])) := e1.trans (Ex.new nT)
          refine ⟨_, rfl, _, rfl, x, y, rfl, Lk.mono eT _ _ _ (hr2 (x, y) (zip_mem gx gy)), fun H3 e3 => ⟨true, rfl, iteF ?_⟩⟩
          exact ⟨_, _, rfl, eT.trans e3⟩
        · rintro σ' H' ⟨x', y', rfl, e1⟩
          exact q H' e1
theorem ok_like (T : Txt K mg) : ∀ n : Nat, FnOk P w K mg base CX0 (n + 1) T.f_like T.fd_like ["_law_found", "_law_due"] (sp_like K n)
  | 0 => ⟨fun vs H Q E h => by obtain ⟨v, w, _, h, _⟩ := h; exact h.elim, fun A outer s H args us vs Q E _ _ _ _ h => by obtain ⟨v, w, _, h, _⟩ := h; exact h.elim⟩
  | n + 1 => ok_likeS T n (ok_like T n)
/-! Grounds.many -/

def sp_Grounds_many (K : PySem.W.Frag) (C : Addr) : Sp := fun vs H Q _ => ∃ (p da dc : Addr) (al : List Int) (ci : List (List Int)), vs = [.ref p] ∧ GrAt C H p da dc al ci ∧ Q (.int (al.length : Int)) H
theorem ok_Grounds_many (T : Txt K mg) : FnOk P w K mg base CX0 1 T.f_Grounds_many T.fd_Grounds_many ["self"] (sp_Grounds_many K T.C_Grounds) := by
  refine T.F_Grounds_many.ok sc_Grounds_many (fun vs H Q E h => ?_) (fun cdv A outer s H vs Q E hr h => ?_)

  · obtain ⟨p, da, dc, al, ci, rfl, _⟩ := h
    rfl
  · obtain ⟨p, da, dc, al, ci, rfl, ⟨⟨dx, ob⟩, la, lc, ne⟩, q⟩ := h
    refine ⟨_, (pss_one (ps_ret (pe_callB call_len_seq (by rfl) T.m_len (by decide +kernel) (pa_cons (pe_fld (pv 0) rfl) pa_nil)))), ?_⟩
    refine ⟨_, rfl, p, _, dx, _, _, rfl, ob, T.cl_Grounds, T.na_Grounds_allowances, gF_al da dc, da, _, rfl, .inl (sq_of la), ?_⟩
    rw [List.length_map]
    exact q
/-! Grounds.add_ground -/

def alwB (x : Int) : Bool := decide (0 ≤ x) && decide (x ≤ 9)
def sp_Grounds_add_ground (K : PySem.W.Frag) (C N : Addr) : Sp := fun vs H Q E => ∃ (p da dc : Addr) (al : List Int) (ci : List (List Int)) (x : Int), vs = [.ref p, .int x] ∧ GrAt C H p da dc al ci ∧ ci.length = al.length ∧ al.length ≤ 5000 ∧ (alwB x = true → ∀ H', ExG da dc H H' → GrAt C H' p da dc (al ++ [x]) (ci ++ [[((al.length + 1 : Nat) : Int)]]) → Q (.int ((al.length + 1 : Nat) : Int)) H') ∧ (alwB x = false → ∀ H', Ex H H' → E (.ref N) none H')
theorem ok_Grounds_add_ground (T : Txt K mg) : FnOk P w K mg base (L2.CX P w) 2 T.f_Grounds_add_ground T.fd_Grounds_add_ground ["self", "allowance"] (sp_Grounds_add_ground K T.C_Grounds T.C_BadAllowance) := by
  refine T.F_Grounds_add_ground.okX sc_Grounds_add_ground (fun vs H Q E h => ?_) (fun cdv A outer s H vs Q E hr h => ?_)

  · obtain ⟨p, da, dc, al, ci, x, rfl, _⟩ := h
    rfl
  · obtain ⟨p, da, dc, al, ci, x, rfl, gr, ln, l5, q, qx⟩ := h
    refine ⟨_, (pss_cons (ps_if (pt_not (pt_chain op_le op_le pe_int (pv 1) (pe_glob (v := .int 9) (by rfl) T.g_GREATEST_ALLOWANCE ⟨_, rfl⟩))) (pss_one (ps_raise rfl (takes_of rfl rfl rfl rfl) (pmk_own0 PySem.F.excBase_ValueError T.x_BadAllowance T.g_BadAllowance T.k_BadAllowance (raises_own T.b_BadAllowance T.t_BadAllowance) rfl))) pss_nil)
      (pss_cons (ps_expr (pe_bm PySem.F.plainAttrs_list PySem.F.slot_list_append PySem.F.type_list_append mt_append (pe_fld (pv 0) rfl) (pa_cons (pv 1) pa_nil)))
      (pss_cons (ps_expr (pe_bm PySem.F.plainAttrs_list PySem.F.slot_list_append PySem.F.type_list_append mt_append (pe_fld (pv 0) rfl) (pa_cons (pe_tup (pa_cons (pe_meth0 (pv 0) T.cl_Grounds T.t_Grounds_many (ok_Grounds_many T) (hr.mono (by decide)) T.b_Grounds_many .nil pass0) pa_nil)) pa_nil)))
      (pss_one (ps_ret (pe_meth0 (pv 0) T.cl_Grounds T.t_Grounds_many (ok_Grounds_many T) (hr.mono (by decide)) T.b_Grounds_many .nil pass0)))))), ?_⟩
    refine ev_chain (i := 0) (j := x) (k := 9) ev_c (ev_var rfl) ev_c _ (Ex.refl H) _ fun H1 e1 => ⟨_, rfl, ?_⟩
    cases hb : alwB x with
    | false =>
      have hb' : (decide (0 ≤ x) && decide (x ≤ 9)) = false := hb
      rw [hb']
      exact iteT (qx hb H1 e1)
    | true =>
      have hb' : (decide (0 ≤ x) && decide (x ≤ 9)) = true := hb
      rw [hb']
      refine iteF ?_
      obtain ⟨⟨dx, ob⟩, la, ⟨us, hc, hU⟩, ne⟩ := gr.mono e1
      have pa : p ≠ da := fun z => by
        rw [z, la] at ob
        cases ob
      have pc : p ≠ dc := fun z => by
        rw [z, hc] at ob
        cases ob
      refine ⟨_, rfl, p, _, dx, _, _, rfl, ob, T.cl_Grounds, T.na_Grounds_allowances, gF_al da dc, .inl ⟨rfl, _, SqL.of la⟩, _, rfl, da, _, _, rfl, rfl, la, sz_lt (by rw [List.length_map]; omega), ?_⟩
      have hU2 : All2 (EarAt (upd H1 da (.lst (al.map V.int ++ [.int x])))) us ci := hU.imp fun _ _ r => r.upd la
      have ob2 : (upd H1 da (.lst (al.map V.int ++ [.int x]))) p = some (.ins T.C_Grounds dx (gF da dc)) := by
        rw [upd_ne pa]
        exact ob
      have la2 : (upd H1 da (.lst (al.map V.int ++ [.int x]))) da = some (.lst ((al ++ [x]).map V.int)) := by
        rw [upd_same, List.map_append]
        rfl
      have hc2 : (upd H1 da (.lst (al.map V.int ++ [.int x]))) dc = some (.lst us) := by
        rw [upd_ne (Ne.symm ne)]
        exact hc
      have fr2 : ExG da dc H (upd H1 da (.lst (al.map V.int ++ [.int x]))) := fun b o hb b1 b2 => by
        rw [upd_ne b1]
        exact e1 _ _ hb
      generalize upd H1 da (.lst (al.map V.int ++ [.int x])) = H2 at hU2 ob2 la2 hc2 fr2
      have gr2 : GrAt T.C_Grounds H2 p da dc (al ++ [x]) ci := ⟨⟨dx, ob2⟩, la2, ⟨us, hc2, hU2⟩, ne⟩
      refine ⟨_, rfl, p, _, dx, _, _, rfl, ob2, T.cl_Grounds, T.na_Grounds_circles, gF_ci da dc, .inl ⟨rfl, _, SqL.of hc2⟩, ?_⟩
      refine ⟨_, rfl, p, dx, _, rfl, ob2, gF_no da dc (by decide +kernel) (by decide +kernel), p, da, dc, _, _, rfl, gr2, (by show 1 ≤ sizeLine; decide), fun t nt => ?_⟩
      have et := Ex.new (o := .tup [.int (((al ++ [x]).length : Nat) : Int)]) nt
      have lx : (al ++ [x]).length = al.length + 1 := by simp
      have hc3 := et _ _ hc2
      refine ⟨dc, us, _, rfl, rfl, hc3, sz_lt (by rw [hU.1]; omega), ?_⟩
      have tdc : t ≠ dc := fun z => by
        rw [z, hc2] at nt
        cases nt
      have tda : t ≠ da := fun z => by
        rw [z, la2] at nt
        cases nt
      have gr3 : GrAt T.C_Grounds (upd (upd H2 t (.tup [.int (((al ++ [x]).length : Nat) : Int)])) dc (.lst (us ++ [.ref t]))) p da dc (al ++ [x]) (ci ++ [[((al.length + 1 : Nat) : Int)]]) := by
        refine ⟨⟨dx, by rw [upd_ne pc]; exact et _ _ ob2⟩, by rw [upd_ne ne]; exact et _ _ la2, ⟨us ++ [.ref t], upd_same, ?_⟩, ne⟩
        refine All2.snoc (hU2.imp fun _ _ r => (r.mono et).upd hc3) ⟨t, rfl, ?_⟩
        rw [upd_ne tdc, upd_same, lx]
        rfl
      obtain ⟨dx3, ob3⟩ := gr3.ob
      refine ⟨_, rfl, p, dx3, _, rfl, ob3, gF_no da dc (by decide +kernel) (by decide +kernel), p, da, dc, _, _, rfl, gr3, ?_⟩
      rw [lx] at gr3 et ⊢
      refine q hb _ (fun b o hb b1 b2 => ?_) gr3
      rw [upd_ne b2]
      exact et _ _ (fr2 b o hb b1 b2)
/-! _law_added -/

def sp_added (K : PySem.W.Frag) (C : Addr) : Sp := fun vs H Q _ => ∃ (p da dc : Addr) (al : List Int) (ci : List (List Int)) (x : Int), vs = [.ref p, .int x] ∧ GrAt C H p da dc al ci ∧ ci.length = al.length ∧ al.length ≤ 5000 ∧ (alwB x = true → ∀ H', ExG da dc H H' → GrAt C H' p da dc (al ++ [x]) (ci ++ [[((al.length + 1 : Nat) : Int)]]) → Q (.int ((al.length + 1 : Nat) : Int)) H') ∧ (alwB x = false → ∀ H', Ex H H' → Q (.str "BadAllowance") H')
theorem ok_added (T : Txt K mg) : FnOk P w K mg base CX0 3 T.f_added T.fd_added ["_law_lands", "_law_allowance"] (sp_added K T.C_Grounds) := by
  refine T.F_added.ok sc_added (fun vs H Q E h => ?_) (fun cdv A outer s H vs Q E hr h => ?_)

  · obtain ⟨p, da, dc, al, ci, x, rfl, _⟩ := h
    rfl
  · obtain ⟨p, da, dc, al, ci, x, rfl, gr, ln, l5, q, qx⟩ := h
    refine ⟨_, (pss_cons (ps_set (i := 2) sc_added.nd rfl (Or.inl rfl) pe_non)
      (pss_cons (ps_try_only rfl rfl ⟨rfl, by decide, .inl T.g_BadAllowance⟩ takes0 (fun W pn xe tk _ => (pss_one (ps_set (i := 2) sc_added.nd rfl (Or.inl rfl) (pe_methT (pv 0) T.cl_Grounds T.t_Grounds_add_ground (ok_Grounds_add_ground T) (hr.mono (by decide)) T.b_Grounds_add_ground (fun σ => passAt tk σ) (pa_cons (pv 1) pa_nil))))) (fun a oe cls d pn _ _ => (pss_one (ps_set (i := 2) sc_added.nd rfl (Or.inl rfl) pe_str))))
      (pss_one (ps_ret (pv 2))))), ?_⟩
    obtain ⟨dx, ob⟩ := gr.ob
    refine ⟨_, rfl, p, dx, _, rfl, ob, gF_no da dc (by decide +kernel) (by decide +kernel), _, rfl, p, da, dc, al, ci, x, rfl, gr, ln, l5, fun hb H1 eg g1 => ⟨_, rfl, q hb H1 eg g1⟩, fun hb H1 e1 => ⟨true, T.e_BadAllowance, fun _ y hy => ?_, fun z => nomatch z⟩⟩
    exact ⟨_, rfl, qx hb H1 e1⟩
/-! _law_cell -/

def sp_cell (K : PySem.W.Frag) : Sp := fun vs H Q _ => ∃ (a : Addr) (ns : List Int) (j : Int), vs = [.ref a, .int j] ∧ SqL K H a (ns.map V.int) ∧ 0 ≤ j ∧ ∀ c : Int, Q (.int c) H
theorem ok_cell (T : Txt K mg) : FnOk P w K mg base CX0 1 T.f_cell T.fd_cell ["_law_script", "_law_k"] (sp_cell K) := by
  refine T.F_cell.ok sc_cell (fun vs H Q E h => ?_) (fun cdv A outer s H vs Q E hr h => ?_)

  · obtain ⟨a, ns, j, rfl, _⟩ := h
    rfl
  · obtain ⟨a, ns, j, rfl, hS, hj, q⟩ := h
    refine ⟨_, (pss_cons (ps_if (pt_cmpR op_lt (pv 1) (pe_callB call_len_seq (by rfl) T.m_len (by decide +kernel) (pa_cons (pv 0) pa_nil)) (nomark _)) (pss_one (ps_ret (pe_ix ix_list (pv 0) (pv 1) (fun _ _ => rfl)))) pss_nil)
      (pss_one (ps_ret pe_int))), ?_⟩
    refine ⟨_, rfl, _, rfl, a, _, rfl, .inl hS, _, _, rfl, rfl, _, rfl, ite2 (fun c => ?_) (fun c => ?_)⟩
    · have c' : j < ((ns.map V.int).length : Int) := of_decide_eq_true c
      have hk : j.toNat < ns.length := by
        rw [List.length_map] at c'
        omega
      refine ⟨_, rfl, _, rfl, a, _, j, .int ns[j.toNat], rfl, rfl, hS, at_of (j := j.toNat) (by omega) ?_, q _⟩
      rw [List.getElem?_map, List.getElem?_eq_getElem hk]
      rfl
    · exact q 0
/-! Grounds.has -/

def hasB (al : List Int) (g : Int) : Bool := decide (1 ≤ g) && decide (g ≤ (al.length : Int))
theorem has_iff {al : List Int} {g : Int} : hasB al g = true ↔ 1 ≤ g ∧ g ≤ (al.length : Int) := by
  unfold hasB
  rw [Bool.and_eq_true, decide_eq_true_eq, decide_eq_true_eq]
def sp_Grounds_has (K : PySem.W.Frag) (C : Addr) : Sp := fun vs H Q _ => ∃ (p da dc : Addr) (al : List Int) (ci : List (List Int)) (g : Int), vs = [.ref p, .int g] ∧ GrAt C H p da dc al ci ∧ ∀ H', Ex H H' → Q (.bl (hasB al g)) H'
theorem ok_Grounds_has (T : Txt K mg) : FnOk P w K mg base CX0 2 T.f_Grounds_has T.fd_Grounds_has ["self", "ground"] (sp_Grounds_has K T.C_Grounds) := by
  refine T.F_Grounds_has.ok sc_Grounds_has (fun vs H Q E h => ?_) (fun cdv A outer s H vs Q E hr h => ?_)

  · obtain ⟨p, da, dc, al, ci, g, rfl, _⟩ := h
    rfl
  · obtain ⟨p, da, dc, al, ci, g, rfl, gr, q⟩ := h
    refine ⟨_, (pss_one (ps_ret (pe_chain op_le op_le pe_int (pv 1) (pe_meth0 (pv 0) T.cl_Grounds T.t_Grounds_many (ok_Grounds_many T) (hr.mono (by decide)) T.b_Grounds_many .nil pass0)))), ?_⟩
    refine ev_chain (i := 1) (j := g) (k := (al.length : Int)) ev_c (ev_var rfl) (fun H1 e1 Q1 q1 => ?_) _ (Ex.refl H) _ q
    obtain ⟨dx, ob⟩ := (gr.mono e1).ob
    exact ⟨_, rfl, p, dx, _, rfl, ob, gF_no da dc (by decide +kernel) (by decide +kernel), p, da, dc, al, ci, rfl, gr.mono e1, q1 H1 (Ex.refl H1)⟩
/-! Grounds.need -/

def sp_Grounds_need (K : PySem.W.Frag) (C N : Addr) : Sp := fun vs H Q E => ∃ (p da dc : Addr) (al : List Int) (ci : List (List Int)) (g : Int), vs = [.ref p, .int g] ∧ GrAt C H p da dc al ci ∧ (hasB al g = true → ∀ H', Ex H H' → Q .non H') ∧ (hasB al g = false → ∀ H', Ex H H' → E (.ref N) none H')
theorem ok_Grounds_need (T : Txt K mg) : FnOk P w K mg base (L2.CX P w) 3 T.f_Grounds_need T.fd_Grounds_need ["self", "ground"] (sp_Grounds_need K T.C_Grounds T.C_NoGround) := by
  refine T.F_Grounds_need.okX sc_Grounds_need (fun vs H Q E h => ?_) (fun cdv A outer s H vs Q E hr h => ?_)

  · obtain ⟨p, da, dc, al, ci, g, rfl, _⟩ := h
    rfl
  · obtain ⟨p, da, dc, al, ci, g, rfl, gr, q, qx⟩ := h
    refine ⟨_, (pss_one (ps_if (pt_not (pt_val (pe_meth (pv 0) T.cl_Grounds T.t_Grounds_has (ok_Grounds_has T) (hr.mono (by decide)) T.b_Grounds_has .nil pass0 (pa_cons (pv 1) pa_nil)))) (pss_one (ps_raise rfl (takes_of rfl rfl rfl rfl) (pmk_own0 PySem.F.excBase_ValueError T.x_NoGround T.g_NoGround T.k_NoGround (raises_own T.b_NoGround T.t_NoGround) rfl))) pss_nil)), ?_⟩
    obtain ⟨dx, ob⟩ := gr.ob
    refine ⟨_, rfl, p, dx, _, rfl, ob, gF_no da dc (by decide +kernel) (by decide +kernel), _, rfl, p, da, dc, al, ci, g, rfl, gr, fun H1 e1 => ⟨_, rfl, ?_⟩⟩
    cases hb : hasB al g with
    | true => exact iteF (q hb H1 e1)
    | false => exact iteT (qx hb H1 e1)
/-! Grounds.allowance -/

def sp_Grounds_allowance (K : PySem.W.Frag) (C N : Addr) : Sp := fun vs H Q E => ∃ (p da dc : Addr) (al : List Int) (ci : List (List Int)) (g : Int), vs = [.ref p, .int g] ∧ GrAt C H p da dc al ci ∧ (∀ x, al[(g - 1).toNat]? = some x → hasB al g = true → ∀ H', Ex H H' → Q (.int x) H') ∧ (hasB al g = false → ∀ H', Ex H H' → E (.ref N) none H')
theorem ok_Grounds_allowance (T : Txt K mg) : FnOk P w K mg base (L2.CX P w) 4 T.f_Grounds_allowance T.fd_Grounds_allowance ["self", "ground"] (sp_Grounds_allowance K T.C_Grounds T.C_NoGround) := by
  refine T.F_Grounds_allowance.okX sc_Grounds_allowance (fun vs H Q E h => ?_) (fun cdv A outer s H vs Q E hr h => ?_)

  · obtain ⟨p, da, dc, al, ci, g, rfl, _⟩ := h
    rfl
  · obtain ⟨p, da, dc, al, ci, g, rfl, gr, q, qx⟩ := h
    refine ⟨_, (pss_cons (ps_expr (pe_meth (pv 0) T.cl_Grounds T.t_Grounds_need (ok_Grounds_need T) (hr.mono (by decide)) T.b_Grounds_need .nil (passes_call (takes_of rfl rfl rfl rfl) fun _ _ _ _ h => h) (pa_cons (pv 1) pa_nil)))
      (pss_one (ps_ret (pe_ix ix_list (pe_fld (pv 0) rfl) (pe_op op_sub (pv 1) pe_int) (fun _ _ => rfl))))), ?_⟩
    obtain ⟨dx, ob⟩ := gr.ob
    refine ⟨_, rfl, p, dx, _, rfl, ob, gF_no da dc (by decide +kernel) (by decide +kernel), _, rfl, p, da, dc, al, ci, g, rfl, gr, fun hb H1 e1 => ?_, qx⟩
    have h1 := has_iff.mp hb
    have hj : (g - 1).toNat < al.length := by omega
    have gx := List.getElem?_eq_getElem hj
    obtain ⟨dx1, ob1⟩ := (gr.mono e1).ob
    refine ⟨_, rfl, p, _, dx1, _, _, rfl, ob1, T.cl_Grounds, T.na_Grounds_allowances, gF_al da dc, _, rfl, _, _, rfl, rfl, da, _, _, _, rfl, rfl, sq_of (gr.mono e1).la, at_of (j := (g - 1).toNat) (by omega) (by rw [List.getElem?_map, gx]; rfl), ?_⟩
    exact q _ gx hb H1 e1
/-! Grounds.together -/

def sp_Grounds_together (K : PySem.W.Frag) (C N : Addr) : Sp := fun vs H Q E => ∃ (p da dc : Addr) (al : List Int) (ci : List (List Int)) (g : Int), vs = [.ref p, .int g] ∧ GrAt C H p da dc al ci ∧ ci.length = al.length ∧ (∀ c, ci[(g - 1).toNat]? = some c → hasB al g = true → ∀ (r : Addr) (H' : Hp), H r = none → Ex H H' → H' r = some (.lst (c.map V.int)) → Q (.ref r) H') ∧ (hasB al g = false → ∀ H', Ex H H' → E (.ref N) none H')
theorem ok_Grounds_together (T : Txt K mg) : FnOk P w K mg base (L2.CX P w) 4 T.f_Grounds_together T.fd_Grounds_together ["self", "ground"] (sp_Grounds_together K T.C_Grounds T.C_NoGround) := by
  refine T.F_Grounds_together.okX sc_Grounds_together (fun vs H Q E h => ?_) (fun cdv A outer s H vs Q E hr h => ?_)

  · obtain ⟨p, da, dc, al, ci, g, rfl, _⟩ := h
    rfl
  · obtain ⟨p, da, dc, al, ci, g, rfl, gr, ln, q, qx⟩ := h
    refine ⟨_, (pss_cons (ps_expr (pe_meth (pv 0) T.cl_Grounds T.t_Grounds_need (ok_Grounds_need T) (hr.mono (by decide)) T.b_Grounds_need .nil (passes_call (takes_of rfl rfl rfl rfl) fun _ _ _ _ h => h) (pa_cons (pv 1) pa_nil)))
      (pss_one (ps_ret (pe_callTy call_list_of (by rfl) T.m_list (by decide +kernel) (pa_cons (pe_ix ix_list (pe_fld (pv 0) rfl) (pe_op op_sub (pv 1) pe_int) (fun _ _ => rfl)) pa_nil))))), ?_⟩
    obtain ⟨dx, ob⟩ := gr.ob
    refine ⟨_, rfl, p, dx, _, rfl, ob, gF_no da dc (by decide +kernel) (by decide +kernel), _, rfl, p, da, dc, al, ci, g, rfl, gr, fun hb H1 e1 => ?_, qx⟩
    have h1 := has_iff.mp hb
    have hj : (g - 1).toNat < ci.length := by omega
    have gx := List.getElem?_eq_getElem hj
    have gr1 := gr.mono e1
    obtain ⟨dx1, ob1⟩ := gr1.ob
    obtain ⟨us, hc, hU⟩ := gr1.lc
    have hju : (g - 1).toNat < us.length := by
      rw [hU.1]
      exact hj
    obtain ⟨t, et, ht⟩ := hU.2 _ _ _ (List.getElem?_eq_getElem hju) gx
    refine ⟨_, rfl, p, _, dx1, _, _, rfl, ob1, T.cl_Grounds, T.na_Grounds_circles, gF_ci da dc, _, rfl, _, _, rfl, rfl, dc, us, _, _, rfl, rfl, sq_of hc, at_of (j := (g - 1).toNat) (by omega) (by rw [List.getElem?_eq_getElem hju, et]), t, _, rfl, .inr (st_of ht), fun r nr => ?_⟩
    exact q _ gx hb r _ (fresh_back e1 nr) (e1.trans (Ex.new nr)) upd_same
/-! Grounds.room -/

theorem s_maxM {K : PySem.W.Frag} {σ : L2.St} {H : Hp} {te : TE} {P : List V → Hp → Prop} {k : Ends} (h : EvM te σ H P) (q : ∀ p H2 us, Ex H H2 → H2 p = some (.lst us) → P us H2 → rMax K [.ref p] H2 k.rt) : tRet (tCB (rMax K) (tCons te tNil)) k σ H := h H (Ex.refl H) _ fun p H2 us _ e hp hP => q p H2 us e hp hP
def alAt (al : List Int) (k : Int) : Int := (al[(k - 1).toNat]?).getD 0
def sp_Grounds_room (K : PySem.W.Frag) (C N : Addr) : Sp := fun vs H Q E => ∃ (p da dc : Addr) (al : List Int) (ci : List (List Int)) (g : Int), vs = [.ref p, .int g] ∧ GrAt C H p da dc al ci ∧ GrOk al ci ∧ (∀ c ∈ ci, c.length ≤ 5000) ∧ (∀ c m, ci[(g - 1).toNat]? = some c → hasB al g = true → m ∈ c.map (alAt al) → (∀ y ∈ c.map (alAt al), y ≤ m) → ∀ H', Ex H H' → Q (.int m) H') ∧ (hasB al g = false → ∀ H', Ex H H' → E (.ref N) none H')
theorem ok_Grounds_room (T : Txt K mg) : FnOk P w K mg base (L2.CX P w) 5 T.f_Grounds_room T.fd_Grounds_room ["self", "ground"] (sp_Grounds_room K T.C_Grounds T.C_NoGround) := by
  refine T.F_Grounds_room.okX sc_Grounds_room (fun vs H Q E h => ?_) (fun cdv A outer s H vs Q E hr h => ?_)

  · obtain ⟨p, da, dc, al, ci, g, rfl, _⟩ := h
    rfl
  · obtain ⟨p, da, dc, al, ci, g, rfl, gr, ok, l5, q, qx⟩ := h
    refine ⟨_, (pss_one (ps_ret (pe_callB (cr_max rfl) (by rfl) T.m_max (by decide +kernel) (pa_cons (pe_lc (own := [("near", 2)]) (g := gName 2) (tt := tYes) (by rfl) sc_Grounds_room.nd (pi_list (pe_meth (pv 0) T.cl_Grounds T.t_Grounds_together (ok_Grounds_together T) (hr.mono (by decide)) T.b_Grounds_together .nil (passes_call (takes_of rfl rfl rfl rfl) fun _ _ _ _ h => h) (pa_cons (pv 1) pa_nil))) (blkOk_by (own := [("near", 2)]) (N := ["self", "ground", "near"]) (sc := defScope s_Grounds_room) (by decide +kernel)) (fun _ _ _ _ _ => pg_name (i := 2) sc_Grounds_room.nd rfl (Or.inl rfl)) (fun _ _ _ _ _ => pts_nil) (fun _ _ _ _ _ => (pe_meth (pv 0) T.cl_Grounds T.t_Grounds_allowance (ok_Grounds_allowance T) (hr.mono (by decide)) T.b_Grounds_allowance .nil passL (pa_cons (pv 2) pa_nil)))) pa_nil)))), ?_⟩
    cases hb : hasB al g with
    | false =>
      obtain ⟨dx, ob⟩ := gr.ob
      exact ⟨_, rfl, p, dx, _, rfl, ob, gF_no da dc (by decide +kernel) (by decide +kernel), _, rfl, p, da, dc, al, ci, g, rfl, gr, ok.len, (fun c gc z => by rw [hb] at z; cases z), fun _ => qx hb⟩
    | true =>
      have h1 := has_iff.mp hb
      have hj : (g - 1).toNat < ci.length := by
        rw [ok.len]
        omega
      have gx := List.getElem?_eq_getElem hj
      generalize ci[(g - 1).toNat] = c at gx
      obtain ⟨cn, cb⟩ := ok.inn _ _ gx
      have c5 := l5 c (List.mem_of_getElem? gx)
      refine s_maxM (K := K) (em_list (K := K) (L := c) (P := ValAt V.int) (ValAt fun k => V.int (alAt al k)) (stay_val _) (stay_val _) (fun _ => true) (fun H1 e1 Q1 q1 => ?_) c5 (fun x hx v H1 e1 hv Qy Qn qy _ => ⟨rfl, yes_if ?_⟩)) fun p2 H2 us e2 h2 hU => ?_
      · obtain ⟨dx, ob⟩ := (gr.mono e1).ob
        refine ⟨_, rfl, p, dx, _, rfl, ob, gF_no da dc (by decide +kernel) (by decide +kernel), _, rfl, p, da, dc, al, ci, g, rfl, gr.mono e1, ok.len, fun c' gc _ r H2 nr e2 hr2 => ?_, fun z => by rw [hb] at z; cases z⟩
        rw [gx] at gc
        cases gc
        exact q1 r H2 _ e2 hr2 (val_all c)
      · cases hv
        obtain ⟨dx, ob⟩ := (gr.mono e1).ob
        have hbx : hasB al x = true := has_iff.mpr (cb x hx)
        refine ⟨_, rfl, p, dx, _, rfl, ob, gF_no da dc (by decide +kernel) (by decide +kernel), _, rfl, p, da, dc, al, ci, x, rfl, gr.mono e1, fun y gy _ H2 e2 => qy rfl _ H2 e2 ?_, fun z => by rw [hbx] at z; cases z⟩
        show V.int y = V.int (alAt al x)
        unfold alAt
        rw [gy]
        rfl
      · have ue : us = (c.map (alAt al)).map V.int := by
          rw [all_val hU, filter_yes, List.map_map]
          rfl
        rw [ue] at h2
        refine ⟨p2, _, rfl, sq_of h2, ?_, fun m hm hy => q c m gx hb hm hy H2 e2⟩
        rw [List.length_map]
        exact List.length_pos_iff.mpr cn
/-! _law_told -/

def TolAt (al : List Int) (ci : List (List Int)) (g w : Int) (H : Hp) (H' : Hp) (u : V) : Prop := (w = 0 ∧ u = .int (alAt al g)) ∨ (w = 1 ∧ ∃ c m, ci[(g - 1).toNat]? = some c ∧ u = .int m ∧ m ∈ c.map (alAt al) ∧ ∀ y ∈ c.map (alAt al), y ≤ m) ∨ (w ≠ 0 ∧ w ≠ 1 ∧ ∃ c r, ci[(g - 1).toNat]? = some c ∧ u = .ref r ∧ H r = none ∧ H' r = some (.lst (c.map V.int)))
def sp_told (K : PySem.W.Frag) (C : Addr) : Sp := fun vs H Q _ => ∃ (p da dc : Addr) (al : List Int) (ci : List (List Int)) (g w : Int), vs = [.ref p, .int g, .int w] ∧ GrAt C H p da dc al ci ∧ GrOk al ci ∧ (∀ c ∈ ci, c.length ≤ 5000) ∧ (hasB al g = true → ∀ (u : V) H', Ex H H' → TolAt al ci g w H H' u → Q u H') ∧ (hasB al g = false → ∀ H', Ex H H' → Q (.str "NoGround") H')
theorem ok_told (T : Txt K mg) : FnOk P w K mg base CX0 6 T.f_told T.fd_told ["_law_lands", "_law_ground", "_law_way"] (sp_told K T.C_Grounds) := by
  refine T.F_told.ok sc_told (fun vs H Q E h => ?_) (fun cdv A outer s H vs Q E hr h => ?_)

  · obtain ⟨p, da, dc, al, ci, g, w, rfl, _⟩ := h
    rfl
  · obtain ⟨p, da, dc, al, ci, g, w', rfl, gr, ok, l5, q, qx⟩ := h
    refine ⟨_, (pss_cons (ps_set (i := 3) sc_told.nd rfl (Or.inl rfl) pe_non)
      (pss_cons (ps_try_only rfl rfl ⟨rfl, by decide, .inl T.g_NoGround⟩ takes0 (fun W pn xe tk _ => (pss_one (ps_if (pt_cmpR op_eq (pv 2) pe_int (nomark _)) (pss_one (ps_set (i := 3) sc_told.nd rfl (Or.inl rfl) (pe_methT (pv 0) T.cl_Grounds T.t_Grounds_allowance (ok_Grounds_allowance T) (hr.mono (by decide)) T.b_Grounds_allowance (fun σ => passAt tk σ) (pa_cons (pv 1) pa_nil)))) (pss_one (ps_if (pt_cmpR op_eq (pv 2) pe_int (nomark _)) (pss_one (ps_set (i := 3) sc_told.nd rfl (Or.inl rfl) (pe_methT (pv 0) T.cl_Grounds T.t_Grounds_room (ok_Grounds_room T) (hr.mono (by decide)) T.b_Grounds_room (fun σ => passAt tk σ) (pa_cons (pv 1) pa_nil)))) (pss_one (ps_set (i := 3) sc_told.nd rfl (Or.inl rfl) (pe_methT (pv 0) T.cl_Grounds T.t_Grounds_together (ok_Grounds_together T) (hr.mono (by decide)) T.b_Grounds_together (fun σ => passAt tk σ) (pa_cons (pv 1) pa_nil))))))))) (fun a oe cls d pn _ _ => (pss_one (ps_set (i := 3) sc_told.nd rfl (Or.inl rfl) pe_str))))
      (pss_one (ps_ret (pv 3))))), ?_⟩
    obtain ⟨dx, ob⟩ := gr.ob
    refine ⟨_, rfl, rfl, _, rfl, ?_⟩
    by_cases h0 : V.int w' = V.int 0
    · rw [decide_eq_true h0]
      refine iteT ⟨_, rfl, p, dx, _, rfl, ob, gF_no da dc (by decide +kernel) (by decide +kernel), _, rfl, p, da, dc, al, ci, g, rfl, gr, fun x gx hb H1 e1 => ⟨_, rfl, q hb _ H1 e1 (.inl ⟨V.int.inj h0, ?_⟩)⟩, fun hb H1 e1 => ⟨true, T.e_NoGround, fun _ y hy => ⟨_, rfl, qx hb H1 e1⟩, fun z => nomatch z⟩⟩
      unfold alAt
      rw [gx]
      rfl
    · rw [decide_eq_false h0]
      refine iteF ⟨_, rfl, rfl, _, rfl, ?_⟩
      by_cases h1 : V.int w' = V.int 1
      · rw [decide_eq_true h1]
        exact iteT ⟨_, rfl, p, dx, _, rfl, ob, gF_no da dc (by decide +kernel) (by decide +kernel), _, rfl, p, da, dc, al, ci, g, rfl, gr, ok, l5, fun c m gc hb hm hy H1 e1 => ⟨_, rfl, q hb _ H1 e1 (.inr (.inl ⟨V.int.inj h1, c, m, gc, rfl, hm, hy⟩))⟩, fun hb H1 e1 => ⟨true, T.e_NoGround, fun _ y hy => ⟨_, rfl, qx hb H1 e1⟩, fun z => nomatch z⟩⟩
      · rw [decide_eq_false h1]
        exact iteF ⟨_, rfl, p, dx, _, rfl, ob, gF_no da dc (by decide +kernel) (by decide +kernel), _, rfl, p, da, dc, al, ci, g, rfl, gr, ok.len, fun c gc hb r H1 nr e1 hr1 => ⟨_, rfl, q hb _ H1 e1 (.inr (.inr ⟨fun z => h0 (by rw [z]), fun z => h1 (by rw [z]), c, r, gc, rfl, nr, hr1⟩))⟩, fun hb H1 e1 => ⟨true, T.e_NoGround, fun _ y hy => ⟨_, rfl, qx hb H1 e1⟩, fun z => nomatch z⟩⟩
/-! law -/

def sp_law (K : PySem.W.Frag) : Sp := fun vs H Q _ => ∃ (a : Addr) (ns : List Int), vs = [.ref a] ∧ SqL K H a (ns.map V.int) ∧ ns.length ≤ 63 ∧ ∀ H', Q (.bl true) H'
theorem cdiv4 (c : Int) : CDiv c 4 := by
  unfold CDiv
  omega
def SomeInt (v : V) (_ : Hp) : Prop := ∃ d : Int, v = .int d
def circ (n : Nat) : List (List Int) := (List.range n).map fun i => [((i + 1 : Nat) : Int)]
theorem circ_succ (n : Nat) : circ (n + 1) = circ n ++ [[((n + 1 : Nat) : Int)]] := by
  unfold circ
  rw [List.range_succ, List.map_append]
  rfl
theorem circ_len (n : Nat) : (circ n).length = n := by
  unfold circ
  rw [List.length_map, List.length_range]
theorem circ_get {n i : Nat} (h : i < n) : (circ n)[i]? = some [((i + 1 : Nat) : Int)] := by
  unfold circ
  rw [List.getElem?_map, List.getElem?_range h]
  rfl
theorem circ_ok {al : List Int} (h : ∀ x ∈ al, alwB x = true) : GrOk al (circ al.length) := by
  refine ⟨circ_len _, fun i c gc => ?_, fun x hx => ?_⟩
  · have hi : i < al.length := by
      have := (List.getElem?_eq_some_iff.mp gc).1
      rw [circ_len] at this
      exact this
    rw [circ_get hi] at gc
    cases gc
    refine ⟨List.cons_ne_nil _ _, fun k hk => ?_⟩
    rw [List.mem_singleton] at hk
    omega
  · have := h x hx
    unfold alwB at this
    rw [Bool.and_eq_true, decide_eq_true_eq, decide_eq_true_eq] at this
    exact this
/-- how a Grounds stands beside the list of what was given -/
structure StG (C : Addr) (H H' : Hp) (p pg da dc : Addr) (al : List Int) : Prop where
  ex : Ex H H'
  gr : GrAt C H' p da dc al (circ al.length)
  gv : H' pg = some (.lst (al.map V.int))
  le : al.length ≤ 63
  aw : ∀ x ∈ al, alwB x = true
theorem StG.mono {C : Addr} {H H' H2 : Hp} {p pg da dc : Addr} {al : List Int} (e : Ex H' H2) (s : StG C H H' p pg da dc al) : StG C H H2 p pg da dc al := ⟨s.ex.trans e, s.gr.mono e, e _ _ s.gv, s.le, s.aw⟩
theorem circ_five {n : Nat} : ∀ c ∈ circ n, c.length ≤ 5000 := fun c hc => by
  unfold circ at hc
  obtain ⟨i, _, rfl⟩ := List.mem_map.mp hc
  exact (by decide : 1 ≤ 5000)
/-- x = [e for g in range(n)], of which some turns keep what they made -/
theorem q_asgD {σ : L2.St} {H : Hp} {te : TE} {tt : TT} {vs : List Nat} {i : Nat} {Dn : Ends} {tz : TS} {ta : TA} {g : TG} {n : Int} (Rel : Addr → Hp → V → Nat → Prop) (RM : ∀ D H H' v x, Ex H H' → Rel D H v x → Rel D H' v x) (RU : ∀ D H o v x, Rel D H v x → Rel D (upd H D o) v x) (h : EvA ta σ H [.int n]) (hn : 0 ≤ n ∧ n ≤ 5000)
    (turn : ∀ D x, x < n.toNat → ∀ (H' : Hp) (acc : List V), Ex H H' → H' D = some (.lst acc) → ∀ (Qy : VK) (Qn : Hp → Prop), (∀ y H2, Ex H' H2 → Rel D H2 y x → Qy y H2) →
      g (.int (x : Int)) (wipe σ vs) H' fun σ2 H2 => wipe σ2 vs = wipe σ vs ∧ tt σ2 H2 fun b H3 => if b = true then te σ2 H3 Qy else Qn H3)
    (k : ∀ D H2 us, Ex H H2 → H2 D = some (.lst us) → All2 (Rel D H2) us (List.range n.toNat) → tz Dn (σ.set i (some (.ref D))) H2) : tSeq (tAsg (tLc (iRng1 ta) g tt te vs) (gName i)) tz Dn σ H := h H (Ex.refl H) _ fun H1 e1 => by
  refine ⟨n, rfl, by omega, by omega, fun D hD => ?_⟩
  refine lc_it (walk_range (lo := 0) (n := n.toNat)) (fun k Ha => Ex H1 Ha ∧ ∃ us, Ha D = some (.lst us) ∧ All2 (Rel D Ha) us (List.range k)) ⟨Ex.new hD, [], upd_same, All2.nil⟩ (fun _ _ _ _ => trivial) ?_ ?_
  · rintro k v Ha Hb hk ⟨ea, us, hu, hU⟩ ⟨rfl, rfl⟩
    have tn := turn D k hk Hb us (e1.trans ea) hu
    rw [← Int.zero_add (k : Int)] at tn
    refine tn _ _ (fun y H2 e2 ry => ?_)
    have hu2 := e2 _ _ hu
    refine ⟨us, hu2, sz_lt ?_, Ex.mut (ea.trans e2) hD, us ++ [y], upd_same, ?_⟩
    · rw [hU.1, List.length_range]
      omega
    · rw [List.range_succ]
      exact All2.snoc (hU.imp fun _ _ r => RU _ _ _ _ _ (RM _ _ _ _ _ e2 r)) (RU _ _ _ _ _ ry)
  · rintro Ha ⟨ea, us, hu, hU⟩
    exact k D Ha us (e1.trans ea) hu hU
def RelG (x g : Int) (D : Addr) (H : Hp) (v : V) (k : Nat) : Prop := (k = 0 ∧ v = .int x) ∨ (k = 1 ∧ v = .int x) ∨ (k ≠ 0 ∧ k ≠ 1 ∧ ∃ r, v = .ref r ∧ r ≠ D ∧ H r = some (.lst [.int g]))
theorem RelG.mono {x g : Int} (D : Addr) (H H' : Hp) (v : V) (k : Nat) (e : Ex H H') (h : RelG x g D H v k) : RelG x g D H' v k := by
  rcases h with h | h | ⟨a, b, r, h1, h2, h3⟩
  · exact .inl h
  · exact .inr (.inl h)
  · exact .inr (.inr ⟨a, b, r, h1, h2, e _ _ h3⟩)
theorem RelG.upd {x g : Int} (D : Addr) (H : Hp) (o : HO) (v : V) (k : Nat) (h : RelG x g D H v k) : RelG x g D (L2.upd H D o) v k := by
  rcases h with h | h | ⟨a, b, r, h1, h2, h3⟩
  · exact .inl h
  · exact .inr (.inl h)
  · exact .inr (.inr ⟨a, b, r, h1, h2, by rw [upd_ne h2]; exact h3⟩)
theorem RelG.of {al : List Int} {g : Int} {k : Nat} {D : Addr} {H H' : Hp} {u : V} {acc : List V} (hb : hasB al g = true) (hD : H D = some (.lst acc)) (h : TolAt al (circ al.length) g (k : Int) H H' u) : RelG (alAt al g) g D H' u k := by
  have hh := has_iff.mp hb
  have hj : (g - 1).toNat < al.length := by omega
  have hg : (((g - 1).toNat + 1 : Nat) : Int) = g := by omega
  rcases h with ⟨h1, h2⟩ | ⟨h1, c, m, gc, h2, h3, _⟩ | ⟨h1, h2, c, r, gc, h3, h4, h5⟩
  · exact .inl ⟨by omega, h2⟩
  · rw [circ_get hj, hg] at gc
    cases gc
    rw [List.map_singleton, List.mem_singleton] at h3
    exact .inr (.inl ⟨by omega, by rw [h2, h3]⟩)
  · rw [circ_get hj, hg] at gc
    cases gc
    exact .inr (.inr ⟨by omega, by omega, r, h3, (fun z => by rw [z, hD] at h4; cases h4), h5⟩)
theorem RelG.three {x g : Int} {D : Addr} {H : Hp} {us : List V} (h : All2 (RelG x g D H) us (List.range 3)) : ∃ r, us = [.int x, .int x, .ref r] ∧ H r = some (.lst [.int g]) := by
  obtain ⟨hl, hA⟩ := h
  match us, hl with
  | [u0, u1, u2], _ =>
    have a0 := hA 0 u0 0 rfl rfl
    have a1 := hA 1 u1 1 rfl rfl
    have a2 := hA 2 u2 2 rfl rfl
    rcases a0 with ⟨_, rfl⟩ | ⟨z, _⟩ | ⟨z, _⟩
    · rcases a1 with ⟨z, _⟩ | ⟨_, rfl⟩ | ⟨_, z, _⟩
      · cases z
      · rcases a2 with ⟨z, _⟩ | ⟨z, _⟩ | ⟨_, _, r, rfl, _, h3⟩
        · cases z
        · cases z
        · exact ⟨r, rfl, h3⟩
      · exact absurd rfl z
    · cases z
    · exact absurd rfl z
theorem ok_law (T : Txt K mg) : FnOk P w K mg base CX0 8 T.f_law T.fd_law ["_law_script"] (sp_law K) := by
  refine T.F_law.ok sc_law (fun vs H Q E h => ?_) (fun cdv A outer s H vs Q E hr h => ?_)

  · obtain ⟨a, ns, rfl, _⟩ := h
    rfl
  · obtain ⟨a, ns, rfl, hS, hn, q⟩ := h
    refine ⟨_, (pss_cons (ps_set (i := 1) sc_law.nd rfl (Or.inr rfl) (pe_make0 T.t_Grounds_init (ok_Grounds_init T) (hr.mono (by decide)) (by rfl) T.g_Grounds T.b_Grounds_init .nil pass0))
      (pss_cons (ps_set (i := 2) sc_law.nd rfl (Or.inl rfl) (pe_lst pa_nil))
      (pss_cut (ps_for PassesOwn.never rfl (pi_list (pe_slice sl_list (pv 0) po_none (po_some pe_int))) (pg_name (i := 3) sc_law.nd rfl (Or.inl rfl)) (pss_cons (ps_set (i := 4) sc_law.nd rfl (Or.inl rfl) (pe_call (ok_cut T) (hr.mono (by decide)) (by rfl) T.g_cut T.F_cut.kp T.b_cut .nil pass0 (pa_cons (pv 3) pa_nil)))
      (pss_cons (ps_if (pt_cmpR op_ne (pe_op op_mod (pv 3) pe_int) pe_int (nomark _)) (pss_one (ps_set (i := 4) sc_law.nd rfl (Or.inl rfl) (pe_op op_mod (pe_op op_fdiv (pv 3) pe_int) pe_int))) pss_nil)
      (pss_cons (ps_set (i := 5) sc_law.nd rfl (Or.inl rfl) (pe_call (ok_added T) (hr.mono (by decide)) (by rfl) T.g_added T.F_added.kp T.b_added .nil pass0 (pa_cons (pv 1) (pa_cons (pv 4) pa_nil))))
      (pss_one (ps_if (pt_chain op_le op_le pe_int (pv 4) pe_int) (pss_cons (ps_expr (pe_bm PySem.F.plainAttrs_list PySem.F.slot_list_append PySem.F.type_list_append mt_append (pv 2) (pa_cons (pv 4) pa_nil)))
      (pss_one (ps_if (pt_not (pt_val (pe_call (ok_like T 3) (hr.mono (by decide)) (by rfl) T.g_like T.F_like.kp T.b_like .nil pass0 (pa_cons (pv 5) (pa_cons (pe_callB call_len_seq (by rfl) T.m_len (by decide +kernel) (pa_cons (pv 2) pa_nil)) pa_nil))))) (pss_one (ps_ret pe_bl)) pss_nil))) (pss_one (ps_if (pt_cmpR op_ne (pv 5) pe_str (nomark _)) (pss_one (ps_ret pe_bl)) pss_nil))))))))
      (pss_cons (ps_set (i := 6) sc_law.nd rfl (Or.inr rfl) (pe_call (ok_cut T) (hr.mono (by decide)) (by rfl) T.g_cut T.F_cut.kp T.b_cut .nil pass0 (pa_cons (pe_call (ok_cell T) (hr.mono (by decide)) (by rfl) T.g_cell T.F_cell.kp T.b_cell .nil pass0 (pa_cons (pv 0) (pa_cons pe_int pa_nil))) pa_nil)))
      (pss_cut (ps_if (pt_cmpR op_ne (pe_op op_mod (pe_call (ok_cell T) (hr.mono (by decide)) (by rfl) T.g_cell T.F_cell.kp T.b_cell .nil pass0 (pa_cons (pv 0) (pa_cons pe_int pa_nil))) pe_int) pe_int (nomark _)) (pss_one (ps_set (i := 6) sc_law.nd rfl (Or.inr rfl) (pe_op op_mod (pv 6) (pe_op op_add (pe_callB call_len_seq (by rfl) T.m_len (by decide +kernel) (pa_cons (pv 2) pa_nil)) pe_int)))) pss_nil)
      (pss_cons (ps_set (i := 7) sc_law.nd rfl (Or.inl rfl) (pe_chain op_le op_le pe_int (pv 6) (pe_callB call_len_seq (by rfl) T.m_len (by decide +kernel) (pa_cons (pv 2) pa_nil))))
      (pss_cons (ps_if (PW.pt (pw_or (pt_not (pt_val (pe_call (ok_like T 3) (hr.mono (by decide)) (by rfl) T.g_like T.F_like.kp T.b_like .nil pass0 (pa_cons (pe_meth0 (pv 1) T.cl_Grounds T.t_Grounds_many (ok_Grounds_many T) (hr.mono (by decide)) T.b_Grounds_many .nil pass0) (pa_cons (pe_callB call_len_seq (by rfl) T.m_len (by decide +kernel) (pa_cons (pv 2) pa_nil)) pa_nil))))) (pw_or1 (pt_not (pt_val (pe_call (ok_like T 3) (hr.mono (by decide)) (by rfl) T.g_like T.F_like.kp T.b_like .nil pass0 (pa_cons (pe_meth (pv 1) T.cl_Grounds T.t_Grounds_has (ok_Grounds_has T) (hr.mono (by decide)) T.b_Grounds_has .nil pass0 (pa_cons (pv 6) pa_nil)) (pa_cons (pv 7) pa_nil)))))))) (pss_one (ps_ret pe_bl)) pss_nil)
      (pss_cons (ps_setLc (i := 5) (own := [("_law_way", 8)]) (g := gName 8) (tt := tYes) (by rfl) sc_law.nd rfl rfl (sw_true rfl rfl rfl (by decide +kernel)) (pi_range1 (by rfl) T.m_range (pa_cons pe_int pa_nil)) (blkOk_by (own := [("_law_way", 8)]) (N := ["_law_script", "_law_lands", "_law_given", "_law_cell_here", "_law_allowance", "_law_told_here", "_law_ground", "_law_there", "_law_way"]) (sc := defScope s_law) (by decide +kernel)) (fun _ _ _ _ _ => pg_name (i := 8) sc_law.nd rfl (Or.inl rfl)) (fun _ _ _ _ _ => pts_nil) (fun _ _ _ _ _ => (pe_call (ok_told T) (hr.mono (by decide)) (by rfl) T.g_told T.F_told.kp T.b_told .nil pass0 (pa_cons (pv 1) (pa_cons (pv 6) (pa_cons (pv 8) pa_nil))))))
      (pss_cons (ps_if (pt_not (pt_val (pv 7))) (pss_one (ps_ret (pe_cmpR (op_eqD hr.units) (pv 5) (pe_lst (pa_cons pe_str (pa_cons pe_str (pa_cons pe_str pa_nil)))) (nomark _)))) pss_nil)
      (pss_one (ps_ret (pe_call (ok_like T 3) (hr.mono (by decide)) (by rfl) T.g_like T.F_like.kp T.b_like .nil pass0 (pa_cons (pv 5) (pa_cons (pe_lst (pa_cons (pe_ix ix_list (pv 2) (pe_op op_sub (pv 6) pe_int) (fun _ _ => rfl)) (pa_cons (pe_ix ix_list (pv 2) (pe_op op_sub (pv 6) pe_int) (fun _ _ => rfl)) (pa_cons (pe_lst (pa_cons (pv 6) pa_nil)) pa_nil)))) pa_nil)))))))))))))), ?_⟩
    refine fun p dx np ndx dp => ⟨p, dx, rfl, upd_same, fun da dc H1 nda ndc gr fr => ⟨rfl, ?_⟩⟩
    have fresh : ∀ {b : Addr}, (upd (upd H dx (.own p)) p (.ins T.C_Grounds dx [])) b = none → b ≠ p ∧ H b = none := fun {b} z => by
      have b1 : b ≠ p := fun y => by
        rw [y, upd_same] at z
        cases z
      rw [upd_ne b1] at z
      have b2 : b ≠ dx := fun y => by
        rw [y, upd_same] at z
        cases z
      rw [upd_ne b2] at z
      exact ⟨b1, z⟩
    have nda' := (fresh nda).2
    have ndc' := (fresh ndc).2
    have e1 : Ex H H1 := fun b o hb => by
      have b1 := ne_of_none hb np
      refine fr b o ?_ b1
      rw [upd_ne b1, upd_ne (ne_of_none hb ndx)]
      exact hb
    refine ⟨Nat.zero_le _, fun pg npg => ?_⟩
    have eg := Ex.new (o := .lst []) npg
    have ng : H pg = none := fresh_back e1 npg
    have ga : pg ≠ da := fun z => by
      rw [z, gr.la] at npg
      cases npg
    have gc : pg ≠ dc := fun z => by
      obtain ⟨us, hc, _⟩ := gr.lc
      rw [z, hc] at npg
      cases npg
    have s0 : StG T.C_Grounds H (upd H1 pg (.lst [])) p pg da dc [] := ⟨e1.trans eg, gr.mono eg, upd_same, Nat.zero_le _, fun x hx => nomatch hx⟩
    generalize upd H1 pg (.lst []) = H2 at s0
    refine ⟨fun σ' H' => ∃ (x3 x4 x5 : Option V) (al : List Int), σ' = [some (.ref a), some (.ref p), some (.ref pg), x3, x4, x5, none, none, none] ∧ StG T.C_Grounds H H' p pg da dc al, ?_, ?_⟩
    · obtain ⟨cs, ecs, _⟩ := cut_ints ns none (some 63)
      have lcs : cs.length ≤ 63 := by
        have := cutV_length (ns.map V.int) none (some 63)
        rw [ecs, List.length_map, List.length_map] at this
        omega
      refine s_forNL (K := K) (el_sl (ev_var rfl) eo_none (eo_some ev_c) (ex_l s0.ex hS)) (fun b i σ' H' => ∃ (x3 x4 x5 : Option V) (al : List Int), σ' = [some (.ref a), some (.ref p), some (.ref pg), x3, x4, x5, none, none, none] ∧ StG T.C_Grounds H H' p pg da dc al ∧ al.length ≤ i ∧ H' b = some (.lst (cs.map V.int)) ∧ b ≠ da ∧ b ≠ dc ∧ b ≠ pg) ?_ ?_ ?_ ?_
      · intro b H3 nb e3 hb
        rw [ecs] at hb
        have s3 : StG T.C_Grounds H H3 p pg da dc [] := ⟨s0.ex.trans e3, s0.gr.mono e3, e3 _ _ s0.gv, Nat.zero_le _, fun x hx => nomatch hx⟩
        obtain ⟨us, hc, _⟩ := s0.gr.lc
        exact ⟨_, _, _, [], rfl, s3, Nat.le_refl _, hb, Ne.symm (ne_of_none s0.gr.la nb), Ne.symm (ne_of_none hc nb), Ne.symm (ne_of_none s0.gv nb)⟩
      · rintro b i σ' H3 _ ⟨x3, x4, x5, al, rfl, _, _, hb, _⟩
        rw [ecs]
        exact sq_of hb
      · rintro b i v σ' H3 gv ⟨x3, x4, x5, al, rfl, st, li, hb, ba, bc, bg⟩
        rw [ecs] at gv
        obtain ⟨c, rfl, gc'⟩ : ∃ c, v = .int c ∧ cs[i]? = some c := by
          rw [List.getElem?_map] at gv
          cases hc : cs[i]? with
          | none =>
            rw [hc] at gv
            cases gv
          | some c =>
            rw [hc] at gv
            exact ⟨c, (Option.some.inj gv).symm, rfl⟩
        have hi : i < cs.length := (List.getElem?_eq_some_iff.mp gc').1
        refine ⟨_, rfl, c, rfl, fun d => ?_⟩
        refine q_maybe SomeInt (et_test (ev_op (ev_op (ev_var rfl) ev_c (rv_I (by show (0 : Int) < 4; decide))) ev_c (rv_ne rfl))) (fun _ => es_ev (ev_op (ev_op (ev_var rfl) ev_c (rv_I (cdiv4 c))) ev_c (rv_I (by show (0 : Int) < 10; decide))) fun _ _ => ⟨_, rfl⟩) (v0 := .int d) (fun _ _ => ⟨d, rfl⟩) rfl fun v H4 e4 hv => ?_
        obtain ⟨x, rfl⟩ := hv
        refine ⟨_, rfl, _, rfl, p, da, dc, al, _, x, rfl, st.gr.mono e4, circ_len _, (by have := st.le; omega), fun ha H5 eg5 g5 => ?_, fun ha H5 e5 => ?_⟩
        · have ha' : (decide (0 ≤ x) && decide (x ≤ 9)) = true := ha
          have hg5 := eg5 _ _ (e4 _ _ st.gv) ga gc
          refine ev_chain (i := 0) (j := x) (k := 9) ev_c (ev_var rfl) ev_c _ (Ex.refl H5) _ fun H6 e6 => ⟨_, rfl, ?_⟩
          rw [ha']
          refine iteT ?_
          have hg6 := e6 _ _ hg5
          refine ⟨_, rfl, .inl ⟨rfl, _, SqL.of hg6⟩, _, rfl, pg, _, _, rfl, rfl, hg6, sz_lt (by rw [List.length_map]; have := st.le; omega), ?_⟩
          have hg7 : (upd H6 pg (.lst (al.map V.int ++ [.int x]))) pg = some (.lst ((al ++ [x]).map V.int)) := by
            rw [upd_same, List.map_append]
            rfl
          refine ⟨_, rfl, _, rfl, pg, _, rfl, .inl (sq_of hg7), _, _, rfl, Lk.int (by simp), fun H8 e8 => ⟨_, rfl, iteF ?_⟩⟩
          have g6 := g5.mono e6
          obtain ⟨⟨dx6, ob6⟩, la6, ⟨us6, hc6, hU6⟩, ne6⟩ := g6
          have pp : p ≠ pg := fun z => by
            rw [z, hg6] at ob6
            cases ob6
          have g7 : GrAt T.C_Grounds (upd H6 pg (.lst (al.map V.int ++ [.int x]))) p da dc (al ++ [x]) (circ (al ++ [x]).length) := by
            rw [List.length_append, List.length_singleton, circ_succ]
            refine ⟨⟨dx6, by rw [upd_ne pp]; exact ob6⟩, by rw [upd_ne (Ne.symm ga)]; exact la6, ⟨us6, by rw [upd_ne (Ne.symm gc)]; exact hc6, hU6.imp fun _ _ r => r.upd hg6⟩, ne6⟩
          have x7 : Ex H (upd H6 pg (.lst (al.map V.int ++ [.int x]))) := fun b o hb => by
            rw [upd_ne (ne_of_none hb ng)]
            exact e6 _ _ (eg5 _ _ (e4 _ _ (st.ex _ _ hb)) (ne_of_none hb nda') (ne_of_none hb ndc'))
          refine ⟨_, _, _, al ++ [x], rfl, ⟨x7.trans e8, g7.mono e8, e8 _ _ hg7, ?_, fun y hy => ?_⟩, ?_, e8 _ _ ?_, ba, bc, bg⟩
          · rw [List.length_append, List.length_singleton]
            omega
          · rcases List.mem_append.mp hy with h | h
            · exact st.aw y h
            · rw [List.mem_singleton] at h
              rw [h]
              exact ha
          · rw [List.length_append, List.length_singleton]
            omega
          · rw [upd_ne bg]
            exact e6 _ _ (eg5 _ _ (e4 _ _ hb) ba bc)
        · have ha' : (decide (0 ≤ x) && decide (x ≤ 9)) = false := ha
          refine ev_chain (i := 0) (j := x) (k := 9) ev_c (ev_var rfl) ev_c _ (Ex.refl H5) _ fun H6 e6 => ⟨_, rfl, ?_⟩
          rw [ha']
          refine iteF ⟨_, rfl, rfl, _, rfl, ?_⟩
          rw [decide_eq_true rfl]
          have f := (e4.trans e5).trans e6
          exact iteF ⟨_, _, _, al, rfl, ⟨st.ex.trans f, st.gr.mono f, f _ _ st.gv, st.le, st.aw⟩, by omega, f _ _ hb, ba, bc, bg⟩
      · rintro b σ' H3 ⟨x3, x4, x5, al, rfl, st, _⟩
        exact ⟨_, _, _, al, rfl, st⟩
    · rintro σ' H3 ⟨x3, x4, x5, al, rfl, st⟩
      refine ⟨_, rfl, a, ns, 0, rfl, ex_l st.ex hS, by decide, fun c0 => ⟨c0, rfl, fun g0 => ?_⟩⟩
      refine ⟨fun σ' H' => ∃ (x3 x4 x5 : Option V) (g : Int), σ' = [some (.ref a), some (.ref p), some (.ref pg), x3, x4, x5, some (.int g), none, none] ∧ StG T.C_Grounds H H' p pg da dc al, ?_, ?_⟩
      · refine ⟨_, rfl, a, ns, 1, rfl, ex_l st.ex hS, by decide, fun c1 => ⟨_, _, rfl, rfl, (by show (0 : Int) < 3; decide), rfl, _, rfl, ?_⟩⟩
        generalize (!decide (V.int (c1 % 3) = V.int 1)) = bb
        cases bb with
        | true => exact iteT ⟨_, rfl, _, rfl, pg, _, rfl, .inl (sq_of st.gv), _, _, rfl, rfl, _, _, rfl, rfl, (by show (0 : Int) < _; omega), _, _, _, _, rfl, st⟩
        | false => exact iteF ⟨_, _, _, _, rfl, st⟩
      · rintro σ' H4 ⟨x3, x4, x5, g, rfl, st⟩
        refine ev_chain (i := 1) (j := g) (k := ((al.map V.int).length : Int)) ev_c (ev_var rfl) (ev_len (K := K) (ev_var rfl) (sq_of st.gv)) _ (Ex.refl _) _ fun H5 e5 => ?_
        have eH : (decide (1 ≤ g) && decide (g ≤ ((al.map V.int).length : Int))) = hasB al g := by
          unfold hasB
          rw [List.length_map]
        rw [eH]
        have s5 := st.mono e5
        obtain ⟨dx5, ob5⟩ := s5.gr.ob
        refine ⟨_, rfl, p, dx5, _, rfl, ob5, gF_no da dc (by decide +kernel) (by decide +kernel), p, da, dc, al, _, rfl, s5.gr, _, rfl, pg, _, rfl, .inl (sq_of s5.gv), _, _, rfl, Lk.int (by rw [List.length_map]), fun H6 e6 => ⟨_, rfl, ?_⟩⟩
        have s6 := s5.mono e6
        obtain ⟨dx6, ob6⟩ := s6.gr.ob
        refine iteF ⟨_, rfl, p, dx6, _, rfl, ob6, gF_no da dc (by decide +kernel) (by decide +kernel), _, rfl, p, da, dc, al, _, g, rfl, s6.gr, fun H7 e7 => ⟨_, rfl, _, _, rfl, Lk.bl rfl, fun H8 e8 => ⟨_, rfl, iteF ?_⟩⟩⟩
        have s8 := (s6.mono e7).mono e8
        cases hb : hasB al g with
        | false =>
          refine q_asgM (em_rng1 (ValAt fun _ => V.str "NoGround") (stay_val _) (fun _ => true) (ea_cons ev_c ea_nil) ⟨by decide, by decide⟩ (fun x hx H' e' Qy Qn qy _ => ⟨rfl, yes_if ⟨_, rfl, _, rfl, _, rfl, p, da, dc, al, _, g, _, rfl, s8.gr.mono e', circ_ok s8.aw, circ_five, (fun z => by rw [hb] at z; cases z), fun _ H9 e9 => qy rfl _ H9 e9 rfl⟩⟩)) fun pt H9 us n9 e9 h9 hU => ?_
          refine ⟨_, rfl, _, rfl, iteT ?_⟩
          have ue : us = [.str "NoGround", .str "NoGround", .str "NoGround"] := by
            rw [all_val hU, filter_yes]
            rfl
          rw [ue] at h9
          refine ⟨_, rfl, (by show 3 ≤ sizeLine; decide), fun pl npl => ⟨_, _, .lst (sq_of (Ex.new npl _ _ h9)) (.cons (.str _) (.cons (.str _) (.cons (.str _) .nil))), .lst (sq_of upd_same) (.cons (.str _) (.cons (.str _) (.cons (.str _) .nil))), by decide +kernel, by decide +kernel, ?_⟩⟩
          have ee : PyData.eqv (.list [.str "NoGround", .str "NoGround", .str "NoGround"]) (.list [.str "NoGround", .str "NoGround", .str "NoGround"]) = true := by decide +kernel
          rw [ee]
          exact q _
        | true =>
          refine q_asgD (RelG (alAt al g) g) RelG.mono RelG.upd (ea_cons ev_c ea_nil) ⟨by decide, by decide⟩ (fun D x hx H' acc e' hD Qy Qn qy => ⟨rfl, yes_if ⟨_, rfl, _, rfl, _, rfl, p, da, dc, al, _, g, _, rfl, s8.gr.mono e', circ_ok s8.aw, circ_five, fun _ u H9 e9 ht => qy u H9 e9 (RelG.of hb hD ht), fun z => by rw [hb] at z; cases z⟩⟩) fun pt H9 us e9 h9 hU => ?_
          obtain ⟨r, rfl, hr9⟩ := RelG.three hU
          have s9 := s8.mono e9
          have hh := has_iff.mp hb
          have hj : (g - 1).toNat < al.length := by omega
          have gx : al[(g - 1).toNat]? = some (alAt al g) := by
            unfold alAt
            rw [List.getElem?_eq_getElem hj]
            rfl
          have gm : (al.map V.int)[(g - 1).toNat]? = some (.int (alAt al g)) := by
            rw [List.getElem?_map, gx]
            rfl
          refine ⟨_, rfl, _, rfl, iteF ?_⟩
          refine ⟨_, rfl, _, rfl, _, rfl, _, _, rfl, rfl, pg, _, _, _, rfl, rfl, sq_of s9.gv, at_of (j := (g - 1).toNat) (by omega) gm, _, rfl, _, rfl, _, _, rfl, rfl, pg, _, _, _, rfl, rfl, sq_of s9.gv, at_of (j := (g - 1).toNat) (by omega) gm, _, rfl, (by show 1 ≤ sizeLine; decide), fun q1 n1 => ⟨(by show 3 ≤ sizeLine; decide), fun q2 n2 => ⟨_, _, rfl, ?_, fun H10 _ => q H10⟩⟩⟩
          have f1 := Ex.new (o := .lst [.int g]) n1
          have f2 := Ex.new (o := .lst [.int (alAt al g), .int (alAt al g), .ref q1]) n2
          have hq1 := f2 _ _ (upd_same (H := H9) (a := q1) (o := .lst [.int g]))
          have lr : Lk K _ 2 (.ref r) (.ref q1) := Or.inr ⟨r, q1, [.int g], [.int g], rfl, rfl, Or.inr ⟨f2 _ _ (f1 _ _ hr9), hq1⟩, rfl, (by decide : 1 ≤ 1000), fun p hp => by
            rw [List.zip_cons_cons, List.zip_nil_left, List.mem_singleton] at hp
            rw [hp]
            exact Lk.int rfl⟩
          refine Or.inr ⟨pt, q2, _, _, rfl, rfl, Or.inr ⟨f2 _ _ (f1 _ _ h9), upd_same⟩, rfl, (by decide : 3 ≤ 1000), fun p hp => ?_⟩
          rw [List.zip_cons_cons, List.zip_cons_cons, List.zip_cons_cons, List.zip_nil_left] at hp
          rcases List.mem_cons.mp hp with rfl | hp
          · exact Lk.int rfl
          rcases List.mem_cons.mp hp with rfl | hp
          · exact Lk.int rfl
          rw [List.mem_singleton] at hp
          rw [hp]
          exact lr
end
theorem all_mk {l : PySem.W.OpenLaw} {w : World} {K : PySem.W.Frag} {h : Heap} {mg : Str → Option Value} {fa f0 f1 f2 f3 f4 f5 f6 f7 f8 f9 f10 f11 f12 f13 f14 : Addr} (X : K.In h) (G : h.Ns mainGlobals mg) (hfa : mg "law" = some (.ref fa))
    {od0 an0 od1 an1 od2 an2 od3 an3 od4 an4 od5 an5 od6 an6 od7 an7 od8 an8 od9 an9 od10 an10 od11 an11 od12 an12 od13 an13 od14 an14 : Option Addr} {sl0 sl1 sl2 sl3 sl4 sl5 sl6 sl7 sl8 sl9 sl10 sl11 sl12 sl13 sl14 : Array (Option Value)} {oc0 kV0 dc0 pm0 cd0 ct0 oc1 kV1 dc1 pm1 cd1 ct1 oc2 kV2 dc2 pm2 cd2 ct2 oc3 kV3 dc3 pm3 cd3 ct3 oc4 kV4 dc4 pm4 cd4 ct4 oc5 kV5 dc5 pm5 cd5 ct5 oc6 kV6 dc6 pm6 cd6 ct6 oc7 kV7 dc7 pm7 cd7 ct7 oc8 kV8 dc8 pm8 cd8 ct8 oc9 kV9 dc9 pm9 cd9 ct9 oc10 kV10 dc10 pm10 cd10 ct10 oc11 kV11 dc11 pm11 cd11 ct11 oc12 kV12 dc12 pm12 cd12 ct12 oc13 kV13 dc13 pm13 cd13 ct13 oc14 kV14 dc14 pm14 cd14 ct14 : Value}
    {cC_Grounds : Addr} (aC_Grounds : PySem.W.nsIn K mainGlobals "Grounds" = some (some (.ref cC_Grounds))) (pg_Grounds : PySem.W.plainGet K cC_Grounds Str.empty = true) (hd_Grounds : PySem.W.hasDictIn K cC_Grounds = true) (po_Grounds : PySem.W.plainOver K cC_Grounds = true) (sa_Grounds : PySem.W.findIn K (.ref cC_Grounds) "__setattr__" = some (some (.builtin "object.__setattr__"))) (mk_Grounds : PySem.W.makesIn K cC_Grounds = true) (kC_Grounds : PySem.W.keepIn K (.ref cC_Grounds) = true)
    (nA_Grounds_allowances : PySem.W.findIn K (.ref cC_Grounds) "allowances" = some none)
    (nA_Grounds_circles : PySem.W.findIn K (.ref cC_Grounds) "circles" = some none)
    (a0 : PySem.W.findIn K (.ref cC_Grounds) "__init__" = some (some (.ref f0))) (i0 : PySem.W.isFn K (.ref f0) = true) (l0 : K.lookup f0 = some ⟨oc0, od0, .func (PySem.W.fnOf "__init__" "Grounds.__init__" (defArgs s_Grounds_init) (defBody s_Grounds_init) (defScope s_Grounds_init) .none kV0 dc0 pm0 an0 cd0 ct0), sl0⟩) (c0 : PySem.W.codeIn K cd0 "Grounds.__init__" = true) (k0 : PySem.W.keepIn K (.ref f0) = true)
    (a1 : PySem.W.nsIn K mainGlobals "_law_cut" = some (some (.ref f1))) (l1 : K.lookup f1 = some ⟨oc1, od1, .func (PySem.W.fnOf "_law_cut" "_law_cut" (defArgs s_cut) (defBody s_cut) (defScope s_cut) .none kV1 dc1 pm1 an1 cd1 ct1), sl1⟩) (c1 : PySem.W.codeIn K cd1 "_law_cut" = true) (k1 : PySem.W.keepIn K (.ref f1) = true)
    (a2 : PySem.W.nsIn K mainGlobals "_law_whole" = some (some (.ref f2))) (l2 : K.lookup f2 = some ⟨oc2, od2, .func (PySem.W.fnOf "_law_whole" "_law_whole" (defArgs s_whole) (defBody s_whole) (defScope s_whole) .none kV2 dc2 pm2 an2 cd2 ct2), sl2⟩) (c2 : PySem.W.codeIn K cd2 "_law_whole" = true) (k2 : PySem.W.keepIn K (.ref f2) = true)
    (a3 : PySem.W.nsIn K mainGlobals "_law_like" = some (some (.ref f3))) (l3 : K.lookup f3 = some ⟨oc3, od3, .func (PySem.W.fnOf "_law_like" "_law_like" (defArgs s_like) (defBody s_like) (defScope s_like) .none kV3 dc3 pm3 an3 cd3 ct3), sl3⟩) (c3 : PySem.W.codeIn K cd3 "_law_like" = true) (k3 : PySem.W.keepIn K (.ref f3) = true)
    (a4 : PySem.W.findIn K (.ref cC_Grounds) "many" = some (some (.ref f4))) (i4 : PySem.W.isFn K (.ref f4) = true) (l4 : K.lookup f4 = some ⟨oc4, od4, .func (PySem.W.fnOf "many" "Grounds.many" (defArgs s_Grounds_many) (defBody s_Grounds_many) (defScope s_Grounds_many) .none kV4 dc4 pm4 an4 cd4 ct4), sl4⟩) (c4 : PySem.W.codeIn K cd4 "Grounds.many" = true) (k4 : PySem.W.keepIn K (.ref f4) = true)
    (a5 : PySem.W.findIn K (.ref cC_Grounds) "add_ground" = some (some (.ref f5))) (i5 : PySem.W.isFn K (.ref f5) = true) (l5 : K.lookup f5 = some ⟨oc5, od5, .func (PySem.W.fnOf "add_ground" "Grounds.add_ground" (defArgs s_Grounds_add_ground) (defBody s_Grounds_add_ground) (defScope s_Grounds_add_ground) .none kV5 dc5 pm5 an5 cd5 ct5), sl5⟩) (c5 : PySem.W.codeIn K cd5 "Grounds.add_ground" = true) (k5 : PySem.W.keepIn K (.ref f5) = true)
    (a6 : PySem.W.nsIn K mainGlobals "_law_added" = some (some (.ref f6))) (l6 : K.lookup f6 = some ⟨oc6, od6, .func (PySem.W.fnOf "_law_added" "_law_added" (defArgs s_added) (defBody s_added) (defScope s_added) .none kV6 dc6 pm6 an6 cd6 ct6), sl6⟩) (c6 : PySem.W.codeIn K cd6 "_law_added" = true) (k6 : PySem.W.keepIn K (.ref f6) = true)
    (a7 : PySem.W.nsIn K mainGlobals "_law_cell" = some (some (.ref f7))) (l7 : K.lookup f7 = some ⟨oc7, od7, .func (PySem.W.fnOf "_law_cell" "_law_cell" (defArgs s_cell) (defBody s_cell) (defScope s_cell) .none kV7 dc7 pm7 an7 cd7 ct7), sl7⟩) (c7 : PySem.W.codeIn K cd7 "_law_cell" = true) (k7 : PySem.W.keepIn K (.ref f7) = true)
    (a8 : PySem.W.findIn K (.ref cC_Grounds) "has" = some (some (.ref f8))) (i8 : PySem.W.isFn K (.ref f8) = true) (l8 : K.lookup f8 = some ⟨oc8, od8, .func (PySem.W.fnOf "has" "Grounds.has" (defArgs s_Grounds_has) (defBody s_Grounds_has) (defScope s_Grounds_has) .none kV8 dc8 pm8 an8 cd8 ct8), sl8⟩) (c8 : PySem.W.codeIn K cd8 "Grounds.has" = true) (k8 : PySem.W.keepIn K (.ref f8) = true)
    (a9 : PySem.W.findIn K (.ref cC_Grounds) "need" = some (some (.ref f9))) (i9 : PySem.W.isFn K (.ref f9) = true) (l9 : K.lookup f9 = some ⟨oc9, od9, .func (PySem.W.fnOf "need" "Grounds.need" (defArgs s_Grounds_need) (defBody s_Grounds_need) (defScope s_Grounds_need) .none kV9 dc9 pm9 an9 cd9 ct9), sl9⟩) (c9 : PySem.W.codeIn K cd9 "Grounds.need" = true) (k9 : PySem.W.keepIn K (.ref f9) = true)
    (a10 : PySem.W.findIn K (.ref cC_Grounds) "allowance" = some (some (.ref f10))) (i10 : PySem.W.isFn K (.ref f10) = true) (l10 : K.lookup f10 = some ⟨oc10, od10, .func (PySem.W.fnOf "allowance" "Grounds.allowance" (defArgs s_Grounds_allowance) (defBody s_Grounds_allowance) (defScope s_Grounds_allowance) .none kV10 dc10 pm10 an10 cd10 ct10), sl10⟩) (c10 : PySem.W.codeIn K cd10 "Grounds.allowance" = true) (k10 : PySem.W.keepIn K (.ref f10) = true)
    (a11 : PySem.W.findIn K (.ref cC_Grounds) "together" = some (some (.ref f11))) (i11 : PySem.W.isFn K (.ref f11) = true) (l11 : K.lookup f11 = some ⟨oc11, od11, .func (PySem.W.fnOf "together" "Grounds.together" (defArgs s_Grounds_together) (defBody s_Grounds_together) (defScope s_Grounds_together) .none kV11 dc11 pm11 an11 cd11 ct11), sl11⟩) (c11 : PySem.W.codeIn K cd11 "Grounds.together" = true) (k11 : PySem.W.keepIn K (.ref f11) = true)
    (a12 : PySem.W.findIn K (.ref cC_Grounds) "room" = some (some (.ref f12))) (i12 : PySem.W.isFn K (.ref f12) = true) (l12 : K.lookup f12 = some ⟨oc12, od12, .func (PySem.W.fnOf "room" "Grounds.room" (defArgs s_Grounds_room) (defBody s_Grounds_room) (defScope s_Grounds_room) .none kV12 dc12 pm12 an12 cd12 ct12), sl12⟩) (c12 : PySem.W.codeIn K cd12 "Grounds.room" = true) (k12 : PySem.W.keepIn K (.ref f12) = true)
    (a13 : PySem.W.nsIn K mainGlobals "_law_told" = some (some (.ref f13))) (l13 : K.lookup f13 = some ⟨oc13, od13, .func (PySem.W.fnOf "_law_told" "_law_told" (defArgs s_told) (defBody s_told) (defScope s_told) .none kV13 dc13 pm13 an13 cd13 ct13), sl13⟩) (c13 : PySem.W.codeIn K cd13 "_law_told" = true) (k13 : PySem.W.keepIn K (.ref f13) = true)
    (a14 : PySem.W.nsIn K mainGlobals "law" = some (some (.ref f14))) (l14 : K.lookup f14 = some ⟨oc14, od14, .func (PySem.W.fnOf "law" "law" (defArgs s_law) (defBody s_law) (defScope s_law) .none kV14 dc14 pm14 an14 cd14 ct14), sl14⟩) (c14 : PySem.W.codeIn K cd14 "law" = true) (k14 : PySem.W.keepIn K (.ref f14) = true)
    (z_isinstance : PySem.W.nsIn K mainGlobals "isinstance" = some none)
    (z_bool : PySem.W.nsIn K mainGlobals "bool" = some none)
    (z_int : PySem.W.nsIn K mainGlobals "int" = some none)
    (z_str : PySem.W.nsIn K mainGlobals "str" = some none)
    (z_tuple : PySem.W.nsIn K mainGlobals "tuple" = some none)
    (z_list : PySem.W.nsIn K mainGlobals "list" = some none)
    (z_len : PySem.W.nsIn K mainGlobals "len" = some none)
    (z_zip : PySem.W.nsIn K mainGlobals "zip" = some none)
    (z_max : PySem.W.nsIn K mainGlobals "max" = some none)
    (z_range : PySem.W.nsIn K mainGlobals "range" = some none)
    {tk_GREATEST_ALLOWANCE : Tok} (u_GREATEST_ALLOWANCE : PySem.W.nsIn K mainGlobals "GREATEST_ALLOWANCE" = some (some (.int 9 tk_GREATEST_ALLOWANCE)))
    {cc_BadAllowance : Addr} (u_BadAllowance : PySem.W.nsIn K mainGlobals "BadAllowance" = some (some (.ref cc_BadAllowance))) (xc_BadAllowance : PySem.W.excIn K cc_BadAllowance [.type "ValueError", .type "Exception", .type "BaseException", .type "object"] "ValueError.__new__" = true) (kc_BadAllowance : PySem.W.keepIn K (.ref cc_BadAllowance) = true) (bc_BadAllowance : PySem.W.subIn K (.ref cc_BadAllowance) (.type "BaseException") = some true) (tc_BadAllowance : PySem.W.typeIn K (.ref cc_BadAllowance) = some (.type "type")) (ic_BadAllowance : PySem.W.isClsIn K cc_BadAllowance = true) (sc_BadAllowance : PySem.W.subIn K (.ref cc_BadAllowance) (.ref cc_BadAllowance) = some true)
    {cc_NoGround : Addr} (u_NoGround : PySem.W.nsIn K mainGlobals "NoGround" = some (some (.ref cc_NoGround))) (xc_NoGround : PySem.W.excIn K cc_NoGround [.type "ValueError", .type "Exception", .type "BaseException", .type "object"] "ValueError.__new__" = true) (kc_NoGround : PySem.W.keepIn K (.ref cc_NoGround) = true) (bc_NoGround : PySem.W.subIn K (.ref cc_NoGround) (.type "BaseException") = some true) (tc_NoGround : PySem.W.typeIn K (.ref cc_NoGround) = some (.type "type")) (ic_NoGround : PySem.W.isClsIn K cc_NoGround = true) (sc_NoGround : PySem.W.subIn K (.ref cc_NoGround) (.ref cc_NoGround) = some true)
    : ∃ fd : FuncData, (∀ (s : Shared) (v : Value), BindsTo s fd ⟨[v], []⟩ [("_law_script", v)]) ∧ ∀ base : Heap, K.In base → base.Ns mainGlobals mg → FnOk l.prog w K mg base CX0 8 fa fd ["_law_script"] (sp_law K) := by
  have e := hfa.symm.trans (PySem.W.mg_of X G a14)
  cases e
  have F0 := fun_mk (st := s_Grounds_init) l0 c0 k0
  have b0 := F0.binds (ps := ["self"]) fun _ _ _ _ _ _ us hl => match us, hl with | [_], _ => rfl
  have F1 := fun_mk (st := s_cut) l1 c1 k1
  have b1 := F1.binds (ps := ["_law_cell_here"]) fun _ _ _ _ _ _ us hl => match us, hl with | [_], _ => rfl
  have F2 := fun_mk (st := s_whole) l2 c2 k2
  have b2 := F2.binds (ps := ["_law_found"]) fun _ _ _ _ _ _ us hl => match us, hl with | [_], _ => rfl
  have F3 := fun_mk (st := s_like) l3 c3 k3
  have b3 := F3.binds (ps := ["_law_found", "_law_due"]) fun _ _ _ _ _ _ us hl => match us, hl with | [_, _], _ => rfl
  have F4 := fun_mk (st := s_Grounds_many) l4 c4 k4
  have b4 := F4.binds (ps := ["self"]) fun _ _ _ _ _ _ us hl => match us, hl with | [_], _ => rfl
  have F5 := fun_mk (st := s_Grounds_add_ground) l5 c5 k5
  have b5 := F5.binds (ps := ["self", "allowance"]) fun _ _ _ _ _ _ us hl => match us, hl with | [_, _], _ => rfl
  have F6 := fun_mk (st := s_added) l6 c6 k6
  have b6 := F6.binds (ps := ["_law_lands", "_law_allowance"]) fun _ _ _ _ _ _ us hl => match us, hl with | [_, _], _ => rfl
  have F7 := fun_mk (st := s_cell) l7 c7 k7
  have b7 := F7.binds (ps := ["_law_script", "_law_k"]) fun _ _ _ _ _ _ us hl => match us, hl with | [_, _], _ => rfl
  have F8 := fun_mk (st := s_Grounds_has) l8 c8 k8
  have b8 := F8.binds (ps := ["self", "ground"]) fun _ _ _ _ _ _ us hl => match us, hl with | [_, _], _ => rfl
  have F9 := fun_mk (st := s_Grounds_need) l9 c9 k9
  have b9 := F9.binds (ps := ["self", "ground"]) fun _ _ _ _ _ _ us hl => match us, hl with | [_, _], _ => rfl
  have F10 := fun_mk (st := s_Grounds_allowance) l10 c10 k10
  have b10 := F10.binds (ps := ["self", "ground"]) fun _ _ _ _ _ _ us hl => match us, hl with | [_, _], _ => rfl
  have F11 := fun_mk (st := s_Grounds_together) l11 c11 k11
  have b11 := F11.binds (ps := ["self", "ground"]) fun _ _ _ _ _ _ us hl => match us, hl with | [_, _], _ => rfl
  have F12 := fun_mk (st := s_Grounds_room) l12 c12 k12
  have b12 := F12.binds (ps := ["self", "ground"]) fun _ _ _ _ _ _ us hl => match us, hl with | [_, _], _ => rfl
  have F13 := fun_mk (st := s_told) l13 c13 k13
  have b13 := F13.binds (ps := ["_law_lands", "_law_ground", "_law_way"]) fun _ _ _ _ _ _ us hl => match us, hl with | [_, _, _], _ => rfl
  have F14 := fun_mk (st := s_law) l14 c14 k14
  have b14 := F14.binds (ps := ["_law_script"]) fun _ _ _ _ _ _ us hl => match us, hl with | [_], _ => rfl

  let T : Txt K mg := { C_Grounds := _, g_Grounds := PySem.W.mg_of X G aC_Grounds, cl_Grounds := ⟨pg_Grounds, hd_Grounds, po_Grounds, sa_Grounds⟩, na_Grounds_allowances := nA_Grounds_allowances, na_Grounds_circles := nA_Grounds_circles, f_Grounds_init := _, fd_Grounds_init := _, F_Grounds_init := F0, b_Grounds_init := b0, t_Grounds_init := ⟨mk_Grounds, a0, i0, kC_Grounds⟩, f_cut := _, fd_cut := _, F_cut := F1, b_cut := b1, g_cut := PySem.W.mg_of X G a1, f_whole := _, fd_whole := _, F_whole := F2, b_whole := b2, g_whole := PySem.W.mg_of X G a2, f_like := _, fd_like := _, F_like := F3, b_like := b3, g_like := PySem.W.mg_of X G a3, f_Grounds_many := _, fd_Grounds_many := _, F_Grounds_many := F4, b_Grounds_many := b4, t_Grounds_many := ⟨a4, i4, k4⟩, f_Grounds_add_ground := _, fd_Grounds_add_ground := _, F_Grounds_add_ground := F5, b_Grounds_add_ground := b5, t_Grounds_add_ground := ⟨a5, i5, k5⟩, f_added := _, fd_added := _, F_added := F6, b_added := b6, g_added := PySem.W.mg_of X G a6, f_cell := _, fd_cell := _, F_cell := F7, b_cell := b7, g_cell := PySem.W.mg_of X G a7, f_Grounds_has := _, fd_Grounds_has := _, F_Grounds_has := F8, b_Grounds_has := b8, t_Grounds_has := ⟨a8, i8, k8⟩, f_Grounds_need := _, fd_Grounds_need := _, F_Grounds_need := F9, b_Grounds_need := b9, t_Grounds_need := ⟨a9, i9, k9⟩, f_Grounds_allowance := _, fd_Grounds_allowance := _, F_Grounds_allowance := F10, b_Grounds_allowance := b10, t_Grounds_allowance := ⟨a10, i10, k10⟩, f_Grounds_together := _, fd_Grounds_together := _, F_Grounds_together := F11, b_Grounds_together := b11, t_Grounds_together := ⟨a11, i11, k11⟩, f_Grounds_room := _, fd_Grounds_room := _, F_Grounds_room := F12, b_Grounds_room := b12, t_Grounds_room := ⟨a12, i12, k12⟩, f_told := _, fd_told := _, F_told := F13, b_told := b13, g_told := PySem.W.mg_of X G a13, f_law := _, fd_law := _, F_law := F14, b_law := b14, g_law := PySem.W.mg_of X G a14, m_isinstance := PySem.W.mg_none_of X G z_isinstance, m_bool := PySem.W.mg_none_of X G z_bool, m_int := PySem.W.mg_none_of X G z_int, m_str := PySem.W.mg_none_of X G z_str, m_tuple := PySem.W.mg_none_of X G z_tuple, m_list := PySem.W.mg_none_of X G z_list, m_len := PySem.W.mg_none_of X G z_len, m_zip := PySem.W.mg_none_of X G z_zip, m_max := PySem.W.mg_none_of X G z_max, m_range := PySem.W.mg_none_of X G z_range, t_GREATEST_ALLOWANCE := _, g_GREATEST_ALLOWANCE := PySem.W.mg_of X G u_GREATEST_ALLOWANCE, C_BadAllowance := _, g_BadAllowance := PySem.W.mg_of X G u_BadAllowance, x_BadAllowance := xc_BadAllowance, k_BadAllowance := kc_BadAllowance, b_BadAllowance := bc_BadAllowance, t_BadAllowance := tc_BadAllowance, e_BadAllowance := exm_one bc_BadAllowance ic_BadAllowance tc_BadAllowance sc_BadAllowance, C_NoGround := _, g_NoGround := PySem.W.mg_of X G u_NoGround, x_NoGround := xc_NoGround, k_NoGround := kc_NoGround, b_NoGround := bc_NoGround, t_NoGround := tc_NoGround, e_NoGround := exm_one bc_NoGround ic_NoGround tc_NoGround sc_NoGround }
  exact ⟨_, fun s v => .of_eq rfl, fun base _ _ => ok_law T⟩
end Ear
open PySem PySem.W PyProof.Rows
set_option maxHeartbeats 0 in
theorem PySem.Challenge.cw_earmarks_k12_grounds_numbered_holds : PySem.Challenge.rw_earmarks_k12_grounds_numbered.Holds := by
  w_on; o_law; k_head; (case hw => w_witness2)
  k_fill
  refine L2.walk_of (l := PySem.Challenge.rw_earmarks_k12_grounds_numbered) (n := 63) (k := 8) (x := "_law_script") (CX := fun _ => L2.CX0) (sp := fun w => Ear.sp_law _) rfl (by decide) rfl ⟨rfl, by decide, by decide⟩ (fun w h Y => PySem.W.kIn_of Y) ?F (fun _ _ a ns hl _ hS => ⟨a, ns, rfl, hS, hl, fun _ => rfl⟩) (fun _ _ _ _ _ h => h)
  case F =>
    intro w mg fa h KX G hmg
    refine' Ear.all_mk KX G hmg ?aC_Grounds ?pg_Grounds ?hd_Grounds ?po_Grounds ?sa_Grounds ?mk_Grounds ?kC_Grounds ?nA_Grounds_allowances ?nA_Grounds_circles ?a0 ?i0 ?l0 ?c0 ?k0 ?a1 ?l1 ?c1 ?k1 ?a2 ?l2 ?c2 ?k2 ?a3 ?l3 ?c3 ?k3 ?a4 ?i4 ?l4 ?c4 ?k4 ?a5 ?i5 ?l5 ?c5 ?k5 ?a6 ?l6 ?c6 ?k6 ?a7 ?l7 ?c7 ?k7 ?a8 ?i8 ?l8 ?c8 ?k8 ?a9 ?i9 ?l9 ?c9 ?k9 ?a10 ?i10 ?l10 ?c10 ?k10 ?a11 ?i11 ?l11 ?c11 ?k11 ?a12 ?i12 ?l12 ?c12 ?k12 ?a13 ?l13 ?c13 ?k13 ?a14 ?l14 ?c14 ?k14 ?z_isinstance ?z_bool ?z_int ?z_str ?z_tuple ?z_list ?z_len ?z_zip ?z_max ?z_range ?u_GREATEST_ALLOWANCE ?u_BadAllowance ?xc_BadAllowance ?kc_BadAllowance ?bc_BadAllowance ?tc_BadAllowance ?ic_BadAllowance ?sc_BadAllowance ?u_NoGround ?xc_NoGround ?kc_NoGround ?bc_NoGround ?tc_NoGround ?ic_NoGround ?sc_NoGround
    (case aC_Grounds => k_is)
    (case pg_Grounds => k_is)
    (case hd_Grounds => k_is)
    (case po_Grounds => k_is)
    (case sa_Grounds => k_is)
    (case mk_Grounds => k_is)
    (case kC_Grounds => k_is)
    (case nA_Grounds_allowances => k_is)
    (case nA_Grounds_circles => k_is)
    (case a0 => k_is)
    (case i0 => k_is)
    (case l0 => k_is)
    (case c0 => k_is)
    (case k0 => k_is)
    (case a1 => k_is)
    (case l1 => k_is)
    (case c1 => k_is)
    (case k1 => k_is)
    (case a2 => k_is)
    (case l2 => k_is)
    (case c2 => k_is)
    (case k2 => k_is)
    (case a3 => k_is)
    (case l3 => k_is)
    (case c3 => k_is)
    (case k3 => k_is)
    (case a4 => k_is)
    (case i4 => k_is)
    (case l4 => k_is)
    (case c4 => k_is)
    (case k4 => k_is)
    (case a5 => k_is)
    (case i5 => k_is)
    (case l5 => k_is)
    (case c5 => k_is)
    (case k5 => k_is)
    (case a6 => k_is)
    (case l6 => k_is)
    (case c6 => k_is)
    (case k6 => k_is)
    (case a7 => k_is)
    (case l7 => k_is)
    (case c7 => k_is)
    (case k7 => k_is)
    (case a8 => k_is)
    (case i8 => k_is)
    (case l8 => k_is)
    (case c8 => k_is)
    (case k8 => k_is)
    (case a9 => k_is)
    (case i9 => k_is)
    (case l9 => k_is)
    (case c9 => k_is)
    (case k9 => k_is)
    (case a10 => k_is)
    (case i10 => k_is)
    (case l10 => k_is)
    (case c10 => k_is)
    (case k10 => k_is)
    (case a11 => k_is)
    (case i11 => k_is)
    (case l11 => k_is)
    (case c11 => k_is)
    (case k11 => k_is)
    (case a12 => k_is)
    (case i12 => k_is)
    (case l12 => k_is)
    (case c12 => k_is)
    (case k12 => k_is)
    (case a13 => k_is)
    (case l13 => k_is)
    (case c13 => k_is)
    (case k13 => k_is)
    (case a14 => k_is)
    (case l14 => k_is)
    (case c14 => k_is)
    (case k14 => k_is)
    (case z_isinstance => k_is)
    (case z_bool => k_is)
    (case z_int => k_is)
    (case z_str => k_is)
    (case z_tuple => k_is)
    (case z_list => k_is)
    (case z_len => k_is)
    (case z_zip => k_is)
    (case z_max => k_is)
    (case z_range => k_is)
    (case u_GREATEST_ALLOWANCE => k_is)
    (case u_BadAllowance => k_is)
    (case xc_BadAllowance => k_exc)
    (case kc_BadAllowance => k_is)
    (case bc_BadAllowance => k_is)
    (case tc_BadAllowance => k_is)
    (case ic_BadAllowance => k_is)
    (case sc_BadAllowance => first | rfl | k_is)
    (case u_NoGround => k_is)
    (case xc_NoGround => k_exc)
    (case kc_NoGround => k_is)
    (case bc_NoGround => k_is)
    (case tc_NoGround => k_is)
    (case ic_NoGround => k_is)
    (case sc_NoGround => first | rfl | k_is)

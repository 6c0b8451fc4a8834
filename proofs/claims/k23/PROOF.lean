import PyProof.Rows.All
import Wide.All
import OpenK.AllK
import Wide.FinOn
import HandS.ForMost
import HandS.Evl
import HandS.Walk
import HandS.Zip
import HandS.IsInst
import HandS.Style
import HandS.FStr
import HandS.Strs
import HandS.TupAny
import HandS.Deep
import HandS.Exc
import HandS.TryOnly
import HandS.ExcOwn
import HandS.WordsExc
import KE.GoesMore
import KE.GoesEnum
import KE.DataMinMax
import KE.SortData
import HandS.SortKw
import PySem.Challenge.RW_earmarks_k23_whole_thief_of_rows
set_option Elab.async false
set_option linter.all false
set_option maxRecDepth 100000
set_option maxHeartbeats 2000000
namespace Ear
open PySem PySem.Spec PyProof.Rows L2 Evl RZ
theorem hu65 {A : Around} {k : Nat} (r : Room k A) : A.units + 65 < cLine := by
  have := r.un
  omega
/-! ### zip(tuple, list) -/
def ItTL (K : PySem.W.Frag) (a b : Addr) : It where
  go := fun i H => ∃ (xs ys : List V) (x y : V), SqT K H a xs ∧ SqL K H b ys ∧ xs[i]? = some x ∧ ys[i]? = some y
  yld := fun i H v H' => ∃ T x y, v = .ref T ∧ H T = none ∧ H' = upd H T (.tup [x, y]) ∧ (∀ xs, SqT K H a xs → xs[i]? = some x) ∧ ∀ ys, SqL K H b ys → ys[i]? = some y
  stop := fun i H => ∃ xs ys : List V, SqT K H a xs ∧ SqL K H b ys ∧ i ≤ xs.length ∧ i ≤ ys.length ∧ (xs.length = i ∨ ys.length = i)
theorem sepTL {z TI TO i1 i2 a b : Addr} (D : ZipApart z TI TO i1 i2 a b) : ZipSep2 z TI TO i1 i2 [i1, a] [i2, b] where
  TIz := D.TIz
  TOz := D.TOz
  TITO := D.TITO
  TIi1 := D.TIi1
  mem1 := by simp
  zf1 := by simp [D.i1z.symm, D.l1z.symm]
  Tf1 := by simp [D.TOi1, D.l1TO.symm]
  TIi2 := D.TIi2
  mem2 := by simp
  zf2 := by simp [D.i2z.symm, D.l2z.symm]
  Tf2 := by simp [D.TOi2, D.l2TO.symm]
  sep1_2 := by simp [D.i12, D.l2i1.symm]
  sep2_1 := by simp [D.i12.symm, D.l1i2.symm]
theorem turnTL {P : Program} {w : World} {K : PySem.W.Frag} {elts : List Expr} {kk : Nat} {tpos : Pos} {a b z TI TO i1 i2 : Addr} (D : ZipApart z TI TO i1 i2 a b) :
    Turn P w K (.Tuple elts kk tpos) (ItTL K a b) [z, TI, TO, i1, i2] z (fun n h => IsZip h z TI TO .none ∧ IsPair h TI (.ref i1) (.ref i2) ∧ (∃ x y, IsPair h TO x y) ∧ h.IsTupleIter i1 a n ∧ h.IsListIter i2 b n) where
  mem := by simp
  obj := fun n h q c hc => by
    obtain ⟨gz, gI, ⟨x, y, gO⟩, ⟨o1, e1, _, d1⟩, ⟨o2, e2, _, d2⟩⟩ := q
    simp only [List.mem_cons, List.not_mem_nil, or_false] at hc
    rcases hc with rfl | rfl | rfl | rfl | rfl
    · exact ⟨_, gz, fun v q => nomatch q⟩
    · exact ⟨_, gI, fun v q => nomatch q⟩
    · exact ⟨_, gO, fun v q => nomatch q⟩
    · exact ⟨o1, e1, fun v q => by rw [d1] at q; cases q⟩
    · exact ⟨o2, e2, fun v q => by rw [d2] at q; cases q⟩
  keep := fun n h h' q k => by
    obtain ⟨gz, gI, ⟨x, y, gO⟩, g1, g2⟩ := q
    refine ⟨k z (by simp) _ gz, k TI (by simp) _ gI, ⟨x, y, k TO (by simp) _ gO⟩, ?_, ?_⟩
    · exact g1.at fun o e => k i1 (by simp) o e
    · exact g2.at fun o e => k i2 (by simp) o e
  item := by
    intro X hP hw hK hc n pins s σ H E I hf q hg
    subst hP hw hK
    obtain ⟨gz, gI, ⟨x0, y0, gO⟩, g1, g2⟩ := q
    obtain ⟨xs, ys, x, y, qx, qy, hx, hy⟩ := hg
    obtain ⟨as, rv, p, _⟩ := I.tuple qx
    obtain ⟨bs, rv2, p2, _⟩ := I.list qy
    obtain ⟨u, hu, ru⟩ := rv.get hx
    obtain ⟨u2, hu2, ru2⟩ := rv2.get hy
    have hzl : z < s.heap.objs.size := Heap.lt_size gz
    have hA : X.A.handled = none := I.ok.hd hc
    have n1 : n < as.toArray.size := by
      have := (List.getElem?_eq_some_iff.mp hu).1
      simpa using this
    have n2 : n < bs.toArray.size := by
      have := (List.getElem?_eq_some_iff.mp hu2).1
      simpa using this
    refine wpAny_pyNext_zipD2_item (sepTL D) (Draws.tuple (A := X.A.in1) hA i1 a D.l1i1 as.toArray) (Draws.list (A := X.A.in1) hA i2 b D.l2i2 bs.toArray) gz gI gO ⟨g1, p⟩ ⟨g2, p2.isList⟩ n1 n2 fun v1 v2 h' tk hv1 hv2 z' TO' s1 s2 hT hsz hk => ?_
    have ev1 : v1 = u := Option.some.inj (hv1.symm.trans (by simpa using hu))
    have ev2 : v2 = u2 := Option.some.inj (hv2.symm.trans (by simpa using hu2))
    subst ev1 ev2
    refine ⟨_, rfl, wpAny_letOwnedTupleGo_zip (s := { s with heap := h', toks := tk }) z' fun h'' z'' sb => ?_⟩
    have hT2 : h''.get? s.heap.objs.size = some { cls := .type "tuple", data := .seq #[v1, v2] } := (sb.2 _ (Nat.ne_of_gt hzl)).trans hT
    have new : ObjOk X.prog X.w (upd H s.heap.objs.size (.tup [x, y])) h'' s.heap.objs.size (.tup [x, y]) := by
      refine ⟨by show 2 ≤ sizeLine; decide, [v1, v2], .cons ru (.cons ru2 .nil), ?_⟩
      exact ⟨_, hT2, rfl, _, rfl⟩
    have I1 : Inv X pins σ (upd H s.heap.objs.size (.tup [x, y])) { s with heap := h'', toks := tk } := by
      refine I.turnedNew (t' := tk) (ch := [z, TI, TO, i1, i2]) (fun c o hb e => ?_) hf ?_ new
      · simp only [List.mem_cons, List.not_mem_nil, or_false, not_or] at hb
        obtain ⟨b1, b2, b3, b4, b5⟩ := hb
        exact (sb.2 c b1).trans (hk c o b1 b3 b4 b5 e)
      · exact Nat.le_refl _
    refine ⟨.ref s.heap.objs.size, _, I1, rfl, ⟨_, x, y, rfl, I.hok.fresh (Nat.le_refl _), rfl, ?_, ?_⟩, ⟨z'', ?_, ⟨v1, v2, ?_⟩, ?_, ?_⟩, fun c hcm => ?_⟩
    · intro l hl
      rw [I.tuple_inj hl qx]
      exact hx
    · intro l hl
      rw [I.list_inj hl qy]
      exact hy
    · exact (sb.2 _ D.TIz).trans (hk _ _ D.TIz D.TITO D.TIi1 D.TIi2 gI)
    · exact (sb.2 _ D.TOz).trans TO'
    · exact s1.1.at fun o e => (sb.2 _ D.i1z).trans e
    · exact s2.1.at fun o e => (sb.2 _ D.i2z).trans e
    · have hlt : c < s.heap.objs.size := by
        simp only [List.mem_cons, List.not_mem_nil, or_false] at hcm
        rcases hcm with rfl | rfl | rfl | rfl | rfl
        · exact hzl
        · exact Heap.lt_size gI
        · exact Heap.lt_size gO
        · obtain ⟨_, e1, _⟩ := g1
          exact Heap.lt_size e1
        · obtain ⟨_, e2, _⟩ := g2
          exact Heap.lt_size e2
      rw [upd_ne (Nat.ne_of_lt hlt)]
      exact (hf c hcm).1
  done := by
    intro X hP hw hK hc n pins s σ H E I hf q hg
    subst hP hw hK
    obtain ⟨gz, gI, ⟨x0, y0, gO⟩, g1, g2⟩ := q
    obtain ⟨xs, ys, qx, qy, la, lb, hend⟩ := hg
    obtain ⟨as, rv, p, _⟩ := I.tuple qx
    obtain ⟨bs, rv2, p2, _⟩ := I.list qy
    have hA : X.A.handled = none := I.ok.hd hc
    have l1 := rv.length
    have l2 := rv2.length
    refine wpAny_pyNext_zipD2_end (sepTL D) (Draws.tuple (A := X.A.in1) hA i1 a D.l1i1 as.toArray) (Draws.list (A := X.A.in1) hA i2 b D.l2i2 bs.toArray) gz gI gO ⟨g1, p⟩ ⟨g2, p2.isList⟩ (by simp; omega) (by simp; omega) (by simp; omega) fun h' tk hk => ⟨rfl, ?_⟩
    refine I.turnedL (t' := tk) (ch := [z, TI, TO, i1, i2]) (fun c o hb e => ?_) hf
    simp only [List.mem_cons, List.not_mem_nil, or_false, not_or] at hb
    obtain ⟨b1, b2, b3, b4, b5⟩ := hb
    exact hk c o b1 b3 b4 b5 e
  self := fun A n s Q E q h => wpAny_pyIter_zip q.1 h
def iTL (K : PySem.W.Frag) (ta : TA) : TI := fun σ H R => ta σ H fun vs H1 => ∃ a b xs ys, vs = [.ref a, .ref b] ∧ SqT K H1 a xs ∧ SqL K H1 b ys ∧ R (ItTL K a b) H1
theorem pi_zipTL {X : Cx} {e e2 : Expr} {ta : TA} {p pos tpos : Pos} {elts : List Expr} {kk : Nat} (hg : Gl X "zip") (hm : X.mg "zip" = none) (ha : PA X [e, e2] ta)
    (hs : starEach [e, e2] X.env = (false, eval e X.env) :: starEach [e2] X.env := by rfl) (hq : (backTo pos (starEach [e2] X.env)).any (·.1) = false := by rfl) :
    PI X (.Tuple elts kk tpos) (.Call (.Name "zip" p) [e, e2] [] pos) (iTL X.K ta) := by
  constructor
  intro pins s σ H R I h
  refine Call_ (ld_blt I hg hm PyProof.Rows.boot_zip (PyProof.Rows.callWith_type1 (thn (ha.run pos pins s σ H _ I h) ?_) hs hq))
  rintro us s1 ⟨vs, H1, I1, r1, q1⟩
  obtain ⟨a, b, xs, ys, rfl, qx, qy, q⟩ := q1
  cases r1 with
  | cons r rr =>
    cases rr with
    | cons r' rr =>
      cases rr
      cases r
      cases r'
      obtain ⟨as, rv, p1, _⟩ := I1.tuple qx
      obtain ⟨bs, rv2, p2, _⟩ := I1.list qy
      obtain ⟨o1, ho1, _⟩ := id p1
      obtain ⟨o2, ho2, _⟩ := id p2.isList
      refine zip_begins2 (begins_tuple a as.toArray) (begins_list b bs.toArray) p1 p2.isList fun h' hz hTI hTO h1 h2 hsz hk => wpAny_pyIter_zip hz ?_
      have I2 : Inv X pins σ H1 { s1 with heap := h' } := I1.kept (t' := s1.toks) hk
      have F5 : ∀ c, c ∈ [s1.heap.objs.size + 4, s1.heap.objs.size + 2, s1.heap.objs.size + 3, s1.heap.objs.size, s1.heap.objs.size + 1] → FpOk X pins H1 c := by
        intro c hcm
        have hle : s1.heap.objs.size ≤ c := by
          simp only [List.mem_cons, List.not_mem_nil, or_false] at hcm
          rcases hcm with rfl | rfl | rfl | rfl | rfl
          · exact Nat.le_add_right _ _
          · exact Nat.le_add_right _ _
          · exact Nat.le_add_right _ _
          · exact Nat.le_refl _
          · exact Nat.le_add_right _ _
        exact I1.fpOk hle (I1.hok.fresh hle)
      refine ⟨s1.heap.objs.size + 4, _, _, _, H1, rfl, I2, turnTL (PySem.W.ktu_apart s1.heap.objs.size a b (Heap.lt_size ho1) (Heap.lt_size ho2)), ⟨hz, hTI, ⟨_, _, hTO⟩, ?_, ?_⟩, F5, q⟩
      · exact ⟨_, h1, rfl, rfl⟩
      · exact ⟨_, h2, rfl, rfl⟩
/-! ### x is True, x is False: x anything -/
def rIsT : R2 := fun x y H Q => ∃ b : Bool, y = .bl b ∧ Q (.bl (decide (x = .bl b))) H
theorem op_isT {X : Cx} : OpR X (compareOp .Is) rIsT := by
  intro pins s σ H x y v u Q I rx ry h
  obtain ⟨b, rfl, q⟩ := h
  cases (show u = Value.bool b from ry)
  by_cases e : x = .bl b
  · subst e
    cases (show v = Value.bool b from rx)
    exact wpAny_is_self rfl ⟨.bl true, H, I, rfl, by simpa using q⟩
  · have hne : v ≠ Value.bool b := by
      intro z
      apply e
      subst z
      cases x <;> first
        | (cases rx <;> rfl)
        | (obtain ⟨t, ht⟩ := rx; cases ht)
    have hq : Q (.bl false) H := by
      rw [decide_eq_false e] at q
      exact q
    refine wpAny_is_other ?_ hne ⟨.bl false, H, I, rfl, hq⟩
    cases x <;> first
      | (cases rx <;> rfl)
      | (obtain ⟨t, ht⟩ := rx; cases ht; rfl)
/-! ### an own exception made with nothing -/
section
variable {X : Cx} {C : Addr} {bmB : List Value} {B newId initId : String}
theorem pmk_own0 {x : Str} {p pos : Pos} (F : ExcBaseFacts B newId initId bmB) (q : PySem.W.excIn X.K C bmB newId = true) (gC : X.mg x = some (.ref C)) (kC : PySem.W.keepIn X.K (.ref C) = true) (r : Raises X (.ref C)) (hg : Gl X x)
    (hn : (x == ("__debug__" : Str)) = false := by decide) : PMk X (.Call (.Name x p) [] [] pos) (fun _ H Q => Q (.ref C) none H) := by
  intro pins s σ H Q I h
  refine wpAny_Call_Name_kw (ld_glob I hg gC ?_ hn)
  refine PySem.W.callWith_K0 I.kIn kC ?_
  show wpAny _ _ (call (.ref C) []) _ _ _
  obtain ⟨bm, N, nm, qn, bs, hdct, sn, sub, ab, col, dd, k0, k1, k2, k3, k5, mN, hC, hN, hni, T⟩ := exc_obj I.kIn q
  refine wpAny_call_exc_subT F T hC hN hni (fun h' e hm => ?_) (Nat.zero_le _)
  exact mk_of I hm r h (I.hok.gone hm.new)
end
theorem exm_one {K : PySem.W.Frag} {S : Addr} (h1 : PySem.W.subIn K (.ref S) (.type "BaseException") = some true) (h2 : PySem.W.isClsIn K S = true) (h3 : PySem.W.typeIn K (.ref S) = some (.type "type")) (h4 : PySem.W.subIn K (.ref S) (.ref S) = some true) :
    PySem.W.exmOne K (.ref S) (.ref S) = some true := by
  have e1 : (PySem.W.subIn K (.ref S) (.type "BaseException") == some true) = true := by rw [h1] <;> rfl
  have e2 : ((PySem.W.clsIn K S).isSome && PySem.W.typeIn K (.ref S) == some (.type "type")) = true := by
    rw [h3, Bool.and_eq_true]
    exact ⟨h2, rfl⟩
  show (if (PySem.W.subIn K (.ref S) (.type "BaseException") == some true) = true then (if ((PySem.W.clsIn K S).isSome && PySem.W.typeIn K (.ref S) == some (.type "type")) = true then PySem.W.subIn K (.ref S) (.ref S) else none) else none) = some true
  rw [if_pos e1, if_pos e2]
  exact h4
/-! ### walks of zip -/
theorem walkTT {K : PySem.W.Frag} {a b : Addr} {xs ys : List V} (hl : xs.length = ys.length) :
    Walk (ItzT K a b) xs.length (fun H => SqT K H a xs ∧ SqT K H b ys) (YPair (fun i => xs[i]?) (fun i => ys[i]?)) where
  goes := fun i H hi q => ⟨xs, ys, xs[i], ys[i]'(by omega), q.1, q.2, by simp, by simp⟩
  stops := fun H q => ⟨xs, ys, q.1, q.2, Or.inl (Nat.le_refl _)⟩
  yields := fun i H v H' _ q y => by
    obtain ⟨T, x, z, h1, h2, h3, h4, h5⟩ := y
    exact ⟨T, x, z, h1, h2, h3, h4 xs q.1, h5 ys q.2⟩
theorem walkLL {K : PySem.W.Frag} {a b : Addr} {xs ys : List V} (hl : xs.length = ys.length) :
    Walk (Itz K a b) xs.length (fun H => SqL K H a xs ∧ SqL K H b ys) (YPair (fun i => xs[i]?) (fun i => ys[i]?)) := walk_zip (by omega)
theorem walkTL {K : PySem.W.Frag} {a b : Addr} {xs ys : List V} (hl : xs.length = ys.length) :
    Walk (ItTL K a b) xs.length (fun H => SqT K H a xs ∧ SqL K H b ys) (YPair (fun i => xs[i]?) (fun i => ys[i]?)) where
  goes := fun i H hi q => ⟨xs, ys, xs[i], ys[i]'(by omega), q.1, q.2, by simp, by simp⟩
  stops := fun H q => ⟨xs, ys, q.1, q.2, Nat.le_refl _, by omega, Or.inl rfl⟩
  yields := fun i H v H' _ q y => by
    obtain ⟨T, x, z, h1, h2, h3, h4, h5⟩ := y
    exact ⟨T, x, z, h1, h2, h3, h4 xs q.1, h5 ys q.2⟩
/-- any walk, whatever is done with what it gives -/
theorem any_it {J : It} {n : Nat} {G : Hp → Prop} {Y : Nat → Hp → V → Hp → Prop} (w : Walk J n G Y) {H0 : Hp} {Qd : Hp → Prop} {B : V → Hp → (Hp → Prop) → Prop} (Pv : Nat → Hp → Prop) (h0 : Pv 0 H0) (hG : ∀ i H, i ≤ n → Pv i H → G H)
    (hs : ∀ i x H H', i < n → Pv i H → Y i H x H' → B x H' (Pv (i + 1))) (hd : ∀ H, Pv n H → Qd H) :
    ∃ W : Nat → Nat → Hp → Prop, (∃ m, W 0 m H0) ∧ ∀ i m H, W i m H → (J.stop i H ∧ Qd H) ∨ (J.go i H ∧ ∃ Nx : Hp → Prop, (∀ H', Nx H' → ∃ m', m' < m ∧ W (i + 1) m' H') ∧ ∀ x H', J.yld i H x H' → B x H' Nx) := by
  refine ⟨fun i m H => m = n - i ∧ i ≤ n ∧ Pv i H, ⟨n, rfl, Nat.zero_le _, h0⟩, ?_⟩
  rintro i m H ⟨rfl, hi, p⟩
  have q := hG i H hi p
  by_cases hlt : i < n
  · exact Or.inr ⟨w.goes i H hlt q, Pv (i + 1), fun H' p' => ⟨n - (i + 1), by omega, rfl, hlt, p'⟩, fun x H' y => hs i x H H' hlt p (w.yields i H x H' hlt q y)⟩
  · have e : i = n := by omega
    subst e
    exact Or.inl ⟨w.stops H q, hd H p⟩
/-! ### comprehensions -/
abbrev gTwo (K : PySem.W.Frag) (i j : Nat) : TG := gTup K 2 (gCons (gName i) (gCons (gName j) gNil))
theorem gTwo_of {K : PySem.W.Frag} {i j : Nat} {x y : V} {T : Addr} {σ : L2.St} {H : Hp} {Q : L2.St → Hp → Prop} (q : Q ((σ.set i (some x)).set j (some y)) (upd H T (.tup [x, y]))) :
    gTwo K i j (.ref T) σ (upd H T (.tup [x, y])) Q := ⟨T, [x, y], rfl, Or.inl (Or.inl upd_same), rfl, x, [y], rfl, y, [], rfl, rfl, q⟩
theorem gTwo_at {K : PySem.W.Frag} {i j : Nat} {x y : V} {T : Addr} {σ : L2.St} {H : Hp} {Q : L2.St → Hp → Prop} (h : H T = some (.tup [x, y])) (q : Q ((σ.set i (some x)).set j (some y)) H) :
    gTwo K i j (.ref T) σ H Q := ⟨T, [x, y], rfl, Or.inl (Or.inl h), rfl, x, [y], rfl, y, [], rfl, rfl, q⟩
theorem yes_if {σ : L2.St} {H : Hp} {A B : Hp → Prop} (h : A H) : tYes σ H (fun b H3 => if b = true then A H3 else B H3) := h
/-- what the first n pairs give -/
def pick (c : V → V → Bool) (g : V → V → V) (zs : List (V × V)) : List V := (zs.filter fun p => c p.1 p.2).map fun p => g p.1 p.2
theorem pick_len (c : V → V → Bool) (g : V → V → V) (zs : List (V × V)) : (pick c g zs).length ≤ zs.length := by
  unfold pick
  rw [List.length_map]
  exact List.length_filter_le _ _
theorem pick_yes {c : V → V → Bool} {g : V → V → V} {zs : List (V × V)} {x y : V} (h : c x y = true) : pick c g (zs ++ [(x, y)]) = pick c g zs ++ [g x y] := by
  unfold pick
  rw [List.filter_append, List.map_append]
  simp [h]
theorem pick_no {c : V → V → Bool} {g : V → V → V} {zs : List (V × V)} {x y : V} (h : c x y = false) : pick c g (zs ++ [(x, y)]) = pick c g zs := by
  unfold pick
  rw [List.filter_append]
  simp [h]
theorem zip_next {xs ys : List V} {i : Nat} {x y : V} (hx : xs[i]? = some x) (hy : ys[i]? = some y) : (xs.zip ys).take (i + 1) = (xs.zip ys).take i ++ [(x, y)] := by
  have h : (xs.zip ys)[i]? = some (x, y) := by
    rw [List.getElem?_zip_eq_some]
    exact ⟨hx, hy⟩
  rw [List.take_add_one, h]
  rfl
theorem zip_mem {xs ys : List V} {i : Nat} {x y : V} (hx : xs[i]? = some x) (hy : ys[i]? = some y) : (x, y) ∈ xs.zip ys := by
  have h : (xs.zip ys)[i]? = some (x, y) := by
    rw [List.getElem?_zip_eq_some]
    exact ⟨hx, hy⟩
  exact List.mem_of_getElem? h
section
variable {K : PySem.W.Frag} {σ : L2.St} {H : Hp} {te tl : TE} {tt : TT} {vs : List Nat}
theorem lc_pairs {J : It} {G : Hp → Prop} {xs ys : List V} {i j : Nat} {H1 : Hp} {D : Addr} {Qd : Hp → Prop} (w : Walk J xs.length G (YPair (fun i => xs[i]?) (fun i => ys[i]?))) (hl : xs.length = ys.length) (hz : xs.length ≤ 1000) (c : V → V → Bool) (g : V → V → V)
    (hD : H1 D = none) (hG : ∀ H', Ex H1 H' → G H') (hw : ∀ x y, wipe (((wipe σ vs).set i (some x)).set j (some y)) vs = wipe σ vs)
    (ht : ∀ x y H', Ex H1 H' → (x, y) ∈ xs.zip ys → EvT tt (((wipe σ vs).set i (some x)).set j (some y)) H' (c x y))
    (he : ∀ x y H', Ex H1 H' → (x, y) ∈ xs.zip ys → c x y = true → Ev te (((wipe σ vs).set i (some x)).set j (some y)) H' (g x y))
    (hd : ∀ H', Ex H1 H' → H' D = some (.lst (pick c g (xs.zip ys))) → Qd H') :
    ∃ W : Nat → Nat → Hp → Prop, (∃ m, W 0 m (upd H1 D (.lst []))) ∧ ∀ n m H, W n m H →
      (J.stop n H ∧ Qd H) ∨ (J.go n H ∧ ∃ Nx : Hp → Prop, (∀ H', Nx H' → ∃ m', m' < m ∧ W (n + 1) m' H') ∧ ∀ x H', J.yld n H x H' → gTwo K i j x (wipe σ vs) H' fun σ2 H2 => wipe σ2 vs = wipe σ vs ∧ tt σ2 H2 fun b H3 =>
        if b = true then te σ2 H3 fun y H4 => ∃ acc, H4 D = some (.lst acc) ∧ acc.length < sizeLine ∧ Nx (upd H4 D (.lst (acc ++ [y]))) else Nx H3) := by
  refine lc_it w (fun n H' => Ex H1 H' ∧ H' D = some (.lst (pick c g ((xs.zip ys).take n)))) ⟨Ex.new hD, upd_same⟩ (fun n H' _ p => hG H' p.1) ?_ ?_
  · rintro n v H' H'' hn ⟨p1, p2⟩ ⟨T, x, y, rfl, nT, rfl, hx, hy⟩
    have dT : D ≠ T := ne_of_none p2 nT
    have eT : Ex H1 (upd H' T (.tup [x, y])) := p1.trans (Ex.new nT)
    have pD : (upd H' T (.tup [x, y])) D = some (.lst (pick c g ((xs.zip ys).take n))) := by
      rw [upd_ne dT]
      exact p2
    refine gTwo_of ⟨hw x y, ?_⟩
    refine ht x y _ eT (zip_mem hx hy) _ (Ex.refl _) _ fun H3 e3 => ?_
    cases hc : c x y with
    | true =>
      refine iteT ?_
      refine he x y _ eT (zip_mem hx hy) hc H3 e3 _ fun H4 e4 => ⟨_, e4 D _ (e3 D _ pD), sz_lt ?_, Ex.mut ((eT.trans e3).trans e4) hD, ?_⟩
      · have h1 := pick_len c g ((xs.zip ys).take n)
        have h2 : ((xs.zip ys).take n).length ≤ n := List.length_take_le _ _
        omega
      · rw [zip_next hx hy, pick_yes hc]
        exact upd_same
    | false =>
      refine iteF ?_
      refine ⟨eT.trans e3, ?_⟩
      rw [zip_next hx hy, pick_no hc]
      exact e3 D _ pD
  · rintro H' ⟨p1, p2⟩
    refine hd H' p1 ?_
    rw [List.take_of_length_le (by rw [List.length_zip]; omega)] at p2
    exact p2
/-- [e for x, y in zip(a, b) if ..], two tuples -/
theorem el_zip {a b : Addr} {xs ys : List V} {ta : TA} {i j : Nat} (c : V → V → Bool) (g : V → V → V) (h : EvA ta σ H [.ref a, .ref b]) (hx : SqT K H a xs) (hy : SqT K H b ys) (hl : xs.length = ys.length) (hz : xs.length ≤ 1000)
    (hw : ∀ x y, wipe (((wipe σ vs).set i (some x)).set j (some y)) vs = wipe σ vs)
    (ht : ∀ x y H', Ex H H' → (x, y) ∈ xs.zip ys → EvT tt (((wipe σ vs).set i (some x)).set j (some y)) H' (c x y))
    (he : ∀ x y H', Ex H H' → (x, y) ∈ xs.zip ys → c x y = true → Ev te (((wipe σ vs).set i (some x)).set j (some y)) H' (g x y)) :
    EvL (tLc (iZipA K ta) (gTwo K i j) tt te vs) σ H (pick c g (xs.zip ys)) := fun H0 e Q q => h H0 e _ fun H1 e1 =>
  ⟨a, b, xs, ys, rfl, Or.inr ⟨ex_t (e.trans e1) hx, ex_t (e.trans e1) hy, fun D hD => lc_pairs (walkTT hl) hl hz c g hD (fun H' e2 => ⟨ex_t ((e.trans e1).trans e2) hx, ex_t ((e.trans e1).trans e2) hy⟩) hw
    (fun x y H' e2 m => ht x y H' ((e.trans e1).trans e2) m) (fun x y H' e2 m hc => he x y H' ((e.trans e1).trans e2) m hc) fun H' e2 h2 => q D H' (fresh_back e1 hD) (e1.trans e2) h2⟩⟩
theorem et_yes : EvT tYes σ H true := fun H1 _ _ q => q H1 (Ex.refl H1)
theorem pick_all (g : V → V → V) (zs : List (V × V)) : pick (fun _ _ => true) g zs = zs.map fun p => g p.1 p.2 := by
  unfold pick
  rw [List.filter_eq_self.mpr (fun _ _ => rfl)]
/-- [e for x in xs] -/
theorem given_map {xs : List V} (g : V → V) : given xs.length (fun _ => true) (fun i => g (xs.getD i .non)) = xs.map g := by
  unfold given
  rw [List.filter_eq_self.mpr (fun _ _ => rfl)]
  apply List.ext_getElem
  · simp
  · intro i h1 h2
    have hi : i < xs.length := by simpa using h2
    rw [List.getElem_map, List.getElem_map, List.getElem_range, List.getD_eq_getElem?_getD, List.getElem?_eq_getElem hi]
    rfl
theorem el_map {a : Addr} {xs : List V} {j : Nat} (g : V → V) (h : Ev tl σ H (.ref a)) (hx : SqL K H a xs) (hz : xs.length ≤ 1000) (hw : ∀ x, wipe ((wipe σ vs).set j (some x)) vs = wipe σ vs)
    (he : ∀ x ∈ xs, ∀ H1, Ex H H1 → Ev te ((wipe σ vs).set j (some x)) H1 (g x)) : EvL (tLc (iList K tl) (gName j) tYes te vs) σ H (xs.map g) := by
  have r := el_lcL (K := K) (t := tYes) (te := te) (tl := tl) (j := j) (vs := vs) (σ := σ) (H := H) (fun _ => true) (fun i => g (xs.getD i .non)) h hx (by omega) hw (fun _ _ _ _ _ => et_yes) (fun i x H1 e1 hi _ => by
    have hm := List.mem_of_getElem? hi
    have e0 : xs.getD i .non = x := by
      rw [List.getD_eq_getElem?_getD, hi]
      rfl
    rw [e0]
    exact he x hm H1 e1)
  rw [given_map] at r
  exact r
/-- tuple([..]) of a new list -/
theorem eu_tuple {xs : List V} (h : EvL te σ H xs) : EvU (tCB (fun xs H Q => ∃ p ys, xs = [.ref p] ∧ ((SqL K H p ys ∧ ∀ l, H l = none → Q (.ref l) (upd H l (.tup ys))) ∨ (SqT K H p ys ∧ Q (.ref p) H))) (tCons te tNil)) σ H xs := fun H1 e Q q =>
  h H1 e _ fun p H2 hp e2 h2 => ⟨p, xs, rfl, Or.inl ⟨sq_of h2, fun l hl => q l _ (fresh_back e2 hl) (e2.trans (Ex.new hl)) upd_same⟩⟩
/-- tuple(xs), xs a list that stands -/
theorem eu_tupleL {a : Addr} {xs : List V} (h : Ev te σ H (.ref a)) (hx : SqL K H a xs) : EvU (tCB (fun xs H Q => ∃ p ys, xs = [.ref p] ∧ ((SqL K H p ys ∧ ∀ l, H l = none → Q (.ref l) (upd H l (.tup ys))) ∨ (SqT K H p ys ∧ Q (.ref p) H))) (tCons te tNil)) σ H xs := fun H1 e Q q =>
  h H1 e _ fun H2 e2 => ⟨a, xs, rfl, Or.inl ⟨ex_l (e.trans e2) hx, fun l hl => q l _ (fresh_back e2 hl) (e2.trans (Ex.new hl)) upd_same⟩⟩
theorem ev_all {bs : List Bool} (h : EvL te σ H (bs.map V.bl)) : Ev (tCB (rAll K) (tCons te tNil)) σ H (.bl (bs.all id)) := fun H1 e Q q =>
  h H1 e _ fun p H2 _ e2 h2 => ⟨p, bs, rfl, sq_of h2, q H2 e2⟩
theorem ev_sum {ns : List Int} (h : EvL te σ H (ns.map V.int)) : Ev (tCB (rSum K) (tCons te tNil)) σ H (.int ns.sum) := fun H1 e Q q =>
  h H1 e _ fun p H2 _ e2 h2 => ⟨p, ns, rfl, sq_of h2, q H2 e2⟩
end
theorem max2 (i j : Int) : (if j > i then j else i) = max i j := by omega
theorem min2 (i j : Int) : (if j < i then j else i) = min i j := by omega
section
variable {σ : L2.St} {H : Hp} {ta tb : TE}
theorem ev_max {i j : Int} (ha : Ev ta σ H (.int i)) (hb : Ev tb σ H (.int j)) : Ev (tCB (fun xs H Q => ∃ i j, xs = [.int i, .int j] ∧ Q (.int (if j > i then j else i)) H) (tCons ta (tCons tb tNil))) σ H (.int (max i j)) := fun H1 e Q q =>
  ha H1 e _ fun H2 e2 => hb H2 (e.trans e2) _ fun H3 e3 => ⟨i, j, rfl, by rw [max2]; exact q H3 (e2.trans e3)⟩
theorem ev_min {i j : Int} (ha : Ev ta σ H (.int i)) (hb : Ev tb σ H (.int j)) : Ev (tCB (fun xs H Q => ∃ i j, xs = [.int i, .int j] ∧ Q (.int (if j < i then j else i)) H) (tCons ta (tCons tb tNil))) σ H (.int (min i j)) := fun H1 e Q q =>
  ha H1 e _ fun H2 e2 => hb H2 (e.trans e2) _ fun H3 e3 => ⟨i, j, rfl, by rw [min2]; exact q H3 (e2.trans e3)⟩
end
/-! ### ears -/
def EarL (xs : List Int) : Prop := xs.length = 6 ∧ ∀ x ∈ xs, 0 ≤ x ∧ x ≤ 9
abbrev TpI (K : PySem.W.Frag) (H : Hp) (a : Addr) (xs : List Int) : Prop := SqT K H a (xs.map V.int)
theorem zip_ints (xs ys : List Int) : (xs.map V.int).zip (ys.map V.int) = (xs.zip ys).map fun p => (V.int p.1, V.int p.2) := by
  induction xs generalizing ys with
  | nil => rfl
  | cons x r ih =>
    cases ys with
    | nil => rfl
    | cons y s => simp [ih]
theorem zip_ints_mem {xs ys : List Int} {v w : V} (h : (v, w) ∈ (xs.map V.int).zip (ys.map V.int)) : ∃ x y : Int, v = .int x ∧ w = .int y ∧ (x, y) ∈ xs.zip ys := by
  rw [zip_ints] at h
  obtain ⟨p, hp, e⟩ := List.mem_map.mp h
  cases e
  exact ⟨p.1, p.2, rfl, rfl, hp⟩
/-- a function of ints as one of values -/
def on2 (g : Int → Int → V) : V → V → V
  | .int i, .int j => g i j
  | _, _ => .non
def on2b (c : Int → Int → Bool) : V → V → Bool
  | .int i, .int j => c i j
  | _, _ => false
def on1 (g : Int → V) : V → V
  | .int i => g i
  | _ => .non
theorem pick_ints (c : Int → Int → Bool) (g : Int → Int → V) (xs ys : List Int) : pick (on2b c) (on2 g) ((xs.map V.int).zip (ys.map V.int)) = ((xs.zip ys).filter fun p => c p.1 p.2).map fun p => g p.1 p.2 := by
  rw [zip_ints]
  unfold pick
  rw [List.filter_map, List.map_map]
  rfl
theorem pick_ints1 (g : Int → Int → V) (xs ys : List Int) : pick (fun _ _ => true) (on2 g) ((xs.map V.int).zip (ys.map V.int)) = (xs.zip ys).map fun p => g p.1 p.2 := by
  rw [zip_ints, pick_all, List.map_map]
  rfl
theorem map_on1 (g : Int → V) (xs : List Int) : (xs.map V.int).map (on1 g) = xs.map g := by
  rw [List.map_map]
  rfl
section
variable {K : PySem.W.Frag} {σ : L2.St} {H : Hp} {te tl : TE} {tt : TT} {vs : List Nat}
/-- the same of two tuples of ints -/
theorem ez_ints {a b : Addr} {xs ys : List Int} {ta : TA} {i j : Nat} (g : Int → Int → V) (h : EvA ta σ H [.ref a, .ref b]) (hx : TpI K H a xs) (hy : TpI K H b ys) (hl : xs.length = ys.length) (hz : xs.length ≤ 1000)
    (hw : ∀ x y, wipe (((wipe σ vs).set i (some x)).set j (some y)) vs = wipe σ vs)
    (he : ∀ (x y : Int) H', Ex H H' → (x, y) ∈ xs.zip ys → Ev te (((wipe σ vs).set i (some (.int x))).set j (some (.int y))) H' (g x y)) :
    EvL (tLc (iZipA K ta) (gTwo K i j) tYes te vs) σ H ((xs.zip ys).map fun p => g p.1 p.2) := by
  have r := el_zip (K := K) (tt := tYes) (te := te) (fun _ _ => true) (on2 g) h hx hy (by simpa using hl) (by simpa using hz) hw (fun _ _ _ _ _ => et_yes) (fun v w H' e m _ => by
    obtain ⟨x, y, rfl, rfl, hm⟩ := zip_ints_mem m
    exact he x y H' e hm)
  rw [pick_ints1] at r
  exact r
theorem ez_intsIf {a b : Addr} {xs ys : List Int} {ta : TA} {i j : Nat} (c : Int → Int → Bool) (g : Int → Int → V) (h : EvA ta σ H [.ref a, .ref b]) (hx : TpI K H a xs) (hy : TpI K H b ys) (hl : xs.length = ys.length) (hz : xs.length ≤ 1000)
    (hw : ∀ x y, wipe (((wipe σ vs).set i (some x)).set j (some y)) vs = wipe σ vs)
    (ht : ∀ (x y : Int) H', Ex H H' → EvT tt (((wipe σ vs).set i (some (.int x))).set j (some (.int y))) H' (c x y))
    (he : ∀ (x y : Int) H', Ex H H' → Ev te (((wipe σ vs).set i (some (.int x))).set j (some (.int y))) H' (g x y)) :
    EvL (tLc (iZipA K ta) (gTwo K i j) tt te vs) σ H (((xs.zip ys).filter fun p => c p.1 p.2).map fun p => g p.1 p.2) := by
  have r := el_zip (K := K) (tt := tt) (te := te) (on2b c) (on2 g) h hx hy (by simpa using hl) (by simpa using hz) hw (fun v w H' e m => by
    obtain ⟨x, y, rfl, rfl, hm⟩ := zip_ints_mem m
    exact ht x y H' e) (fun v w H' e m _ => by
    obtain ⟨x, y, rfl, rfl, hm⟩ := zip_ints_mem m
    exact he x y H' e)
  rw [pick_ints] at r
  exact r
theorem em_ints {a : Addr} {xs : List Int} {j : Nat} (g : Int → V) (h : Ev tl σ H (.ref a)) (hx : SqL K H a (xs.map V.int)) (hz : xs.length ≤ 1000) (hw : ∀ x, wipe ((wipe σ vs).set j (some x)) vs = wipe σ vs)
    (he : ∀ x : Int, x ∈ xs → ∀ H1, Ex H H1 → Ev te ((wipe σ vs).set j (some (.int x))) H1 (g x)) : EvL (tLc (iList K tl) (gName j) tYes te vs) σ H (xs.map g) := by
  have r := el_map (K := K) (te := te) (on1 g) h hx (by simpa using hz) hw (fun v hv H1 e1 => by
    obtain ⟨x, hx', rfl⟩ := List.mem_map.mp hv
    exact he x hx' H1 e1)
  rw [map_on1] at r
  exact r
end
/-! ### comprehensions over a tuple; over what stands at an address -/
section
variable {K : PySem.W.Frag} {σ : L2.St} {H : Hp} {te tl : TE} {tt : TT} {vs : List Nat}
theorem take_next {xs : List V} {i : Nat} {x : V} (hx : xs[i]? = some x) : xs.take (i + 1) = xs.take i ++ [x] := by
  rw [List.take_add_one, hx]
  rfl
theorem em_tup {a : Addr} {xs : List V} {j : Nat} (g : V → V) (h : Ev tl σ H (.ref a)) (hx : SqT K H a xs) (hz : xs.length ≤ 1000) (hw : ∀ x, wipe ((wipe σ vs).set j (some x)) vs = wipe σ vs)
    (he : ∀ x ∈ xs, ∀ H1, Ex H H1 → Ev te ((wipe σ vs).set j (some x)) H1 (g x)) : EvL (tLc (iTup K tl) (gName j) tYes te vs) σ H (xs.map g) := fun H0 e Q q => h H0 e _ fun H1 e1 => ⟨a, rfl, ⟨xs, ex_t (e.trans e1) hx⟩, fun D hD => by
  refine lc_it walk_tup (fun n H' => Ex H1 H' ∧ H' D = some (.lst ((xs.take n).map g))) ⟨Ex.new hD, upd_same⟩ (fun n H' _ p => ex_t ((e.trans e1).trans p.1) hx) ?_ ?_
  · rintro n x H' H'' hn ⟨p1, p2⟩ ⟨rfl, gx⟩
    refine ⟨hw x, ?_⟩
    show te ((wipe σ vs).set j (some x)) _ _
    refine he x (List.mem_of_getElem? gx) _ ((e.trans e1).trans p1) _ (Ex.refl _) _ fun H4 e4 => ⟨_, e4 D _ p2, sz_lt ?_, Ex.mut (p1.trans e4) hD, ?_⟩
    · rw [List.length_map]
      have := List.length_take_le n xs
      omega
    · rw [upd_same, take_next gx, List.map_append]
      rfl
  · rintro H' ⟨p1, p2⟩
    rw [List.take_of_length_le (Nat.le_refl _)] at p2
    exact q D H' (fresh_back e1 hD) (e1.trans p1) p2⟩
theorem emT_ints {a : Addr} {xs : List Int} {j : Nat} (g : Int → V) (h : Ev tl σ H (.ref a)) (hx : TpI K H a xs) (hz : xs.length ≤ 1000) (hw : ∀ x, wipe ((wipe σ vs).set j (some x)) vs = wipe σ vs)
    (he : ∀ x : Int, x ∈ xs → ∀ H1, Ex H H1 → Ev te ((wipe σ vs).set j (some (.int x))) H1 (g x)) : EvL (tLc (iTup K tl) (gName j) tYes te vs) σ H (xs.map g) := by
  have r := em_tup (K := K) (te := te) (on1 g) h hx (by simpa using hz) hw (fun v hv H1 e1 => by
    obtain ⟨x, hx', rfl⟩ := List.mem_map.mp hv
    exact he x hx' H1 e1)
  rw [map_on1] at r
  exact r
theorem em_tupN {xs : List V} {j : Nat} (g : V → V) (h : EvU tl σ H xs) (hz : xs.length ≤ 1000) (hw : ∀ x, wipe ((wipe σ vs).set j (some x)) vs = wipe σ vs)
    (he : ∀ x ∈ xs, ∀ H1, Ex H H1 → Ev te ((wipe σ vs).set j (some x)) H1 (g x)) : EvL (tLc (iTup K tl) (gName j) tYes te vs) σ H (xs.map g) := fun H0 e Q q => h H0 e _ fun p H1 hp e1 h1 =>
  em_tup (K := K) (te := te) (tl := tC (.ref p)) g ev_c (st_of h1) hz hw (fun x hx H2 e2 => he x hx H2 ((e.trans e1).trans e2)) H1 (Ex.refl H1) Q fun p2 H2 n2 e2 h2 => q p2 H2 (fresh_back e1 n2) (e1.trans e2) h2
theorem emT_intsN {xs : List Int} {j : Nat} (g : Int → V) (h : EvU tl σ H (xs.map V.int)) (hz : xs.length ≤ 1000) (hw : ∀ x, wipe ((wipe σ vs).set j (some x)) vs = wipe σ vs)
    (he : ∀ x : Int, x ∈ xs → ∀ H1, Ex H H1 → Ev te ((wipe σ vs).set j (some (.int x))) H1 (g x)) : EvL (tLc (iTup K tl) (gName j) tYes te vs) σ H (xs.map g) := by
  have r := em_tupN (K := K) (te := te) (on1 g) h (by simpa using hz) hw (fun v hv H1 e1 => by
    obtain ⟨x, hx', rfl⟩ := List.mem_map.mp hv
    exact he x hx' H1 e1)
  rw [map_on1] at r
  exact r
/-- the list that is walked stands already: what the walk asks -/
theorem at_ints {a : Addr} {xs : List Int} {j : Nat} (g : Int → V) (hx : SqL K H a (xs.map V.int)) (hz : xs.length ≤ 1000) (hw : ∀ x, wipe ((wipe σ vs).set j (some x)) vs = wipe σ vs)
    (he : ∀ x : Int, x ∈ xs → ∀ H1, Ex H H1 → Ev te ((wipe σ vs).set j (some (.int x))) H1 (g x)) {Q : VK} (q : ∀ p H2, H p = none → Ex H H2 → H2 p = some (.lst (xs.map g)) → Q (.ref p) H2) :
    tLc (iList K (tC (.ref a))) (gName j) tYes te vs σ H Q := em_ints (K := K) (te := te) g ev_c hx hz hw he H (Ex.refl H) Q q
/-- evaluates to some value of which P is known -/
def EvS (te : TE) (σ : L2.St) (H : Hp) (P : V → Hp → Prop) : Prop := ∀ H1, Ex H H1 → ∀ Q : VK, (∀ v H2, Ex H1 H2 → P v H2 → Q v H2) → te σ H1 Q
def SomeL (P : List Int → Prop) (v : V) (H : Hp) : Prop := ∃ (p : Addr) (xs : List Int), v = .ref p ∧ H p = some (.lst (xs.map V.int)) ∧ P xs
/-- y = [e for x in call(..)], the call hands back some list of ints -/
theorem q_lcN {i j : Nat} {D : Ends} {tz : TS} (P : List Int → Prop) (g : Int → V) (h : EvS tl σ H (SomeL P)) (hz : ∀ xs, P xs → xs.length ≤ 1000) (hw : ∀ x, wipe ((wipe σ vs).set j (some x)) vs = wipe σ vs)
    (he : ∀ (x : Int) H1, Ex H H1 → Ev te ((wipe σ vs).set j (some (.int x))) H1 (g x)) (k : ∀ p H1 xs, P xs → H p = none → Ex H H1 → H1 p = some (.lst (xs.map g)) → tz D (σ.set i (some (.ref p))) H1) :
    tSeq (tAsg (tLc (iList K tl) (gName j) tYes te vs) (gName i)) tz D σ H := by
  refine h H (Ex.refl H) _ fun v H1 e1 hv => ?_
  obtain ⟨p, xs, rfl, hp, hP⟩ := hv
  exact em_ints (K := K) (te := te) (tl := tC (.ref p)) g ev_c (sq_of hp) (hz xs hP) hw (fun x _ H2 e2 => he x H2 (e1.trans e2)) H1 (Ex.refl H1) (fun v H' => tz D (σ.set i (some v)) H') fun p2 H2 n2 e2 h2 => k p2 H2 xs hP (fresh_back e1 n2) (e1.trans e2) h2
theorem ev_chain {ta tb tc : TE} {i j k : Int} (ha : Ev ta σ H (.int i)) (hb : Ev tb σ H (.int j)) (hc : Ev tc σ H (.int k)) :
    Ev (tChain (rI0 fun i j => .bl (decide (i ≤ j))) (rI0 fun i j => .bl (decide (i ≤ j))) ta tb tc) σ H (.bl (decide (i ≤ j) && decide (j ≤ k))) := fun H1 e Q q =>
  ha H1 e _ fun H2 e2 => hb H2 (e.trans e2) _ fun H3 e3 => ⟨i, j, rfl, rfl, _, rfl, by
    cases hd : decide (i ≤ j) with
    | true =>
      refine iteT ?_
      refine hc H3 ((e.trans e2).trans e3) _ fun H4 e4 => ⟨j, k, rfl, rfl, ?_⟩
      have r := q H4 ((e2.trans e3).trans e4)
      rw [hd, Bool.true_and] at r
      exact r
    | false =>
      refine iteF ?_
      have r := q H3 (e2.trans e3)
      rw [hd, Bool.false_and] at r
      exact r⟩
end
/-! ### values of which something is known -/
section
variable {K : PySem.W.Frag} {σ : L2.St} {H H' : Hp} {te ta tb : TE} {t : TT} {P R : V → Hp → Prop} {v : V}
theorem EvS.mono (e : Ex H H') (h : EvS te σ H P) : EvS te σ H' P := fun H1 a Q q => h H1 (e.trans a) Q q
theorem es_ev (h : Ev te σ H v) (hp : ∀ H', Ex H H' → P v H') : EvS te σ H P := fun H1 e Q q => h H1 e Q fun H2 e2 => q v H2 e2 (hp H2 (e.trans e2))
theorem EvS.imp (h : EvS te σ H P) (k : ∀ v H', P v H' → R v H') : EvS te σ H R := fun H1 e Q q => h H1 e Q fun v H2 e2 p => q v H2 e2 (k v H2 p)
def SomeT (n : Nat) (v : V) (_ : Hp) : Prop := ∃ z : Str, v = .str z ∧ z.length ≤ n
theorem q_asgS {i : Nat} {D : Ends} {tz : TS} (h : EvS te σ H P) (k : ∀ v H1, Ex H H1 → P v H1 → tz D (σ.set i (some v)) H1) : tSeq (tAsg te (gName i)) tz D σ H := h H (Ex.refl H) _ fun v H1 e p => k v H1 e p
/-- if t: x = e, of which the same is known whether or not -/
theorem q_maybe {i : Nat} {D : Ends} {tz : TS} {b : Bool} {v0 : V} (P : V → Hp → Prop) (h : EvT t σ H b) (he : b = true → EvS te σ H P) (h0 : ∀ H', Ex H H' → P v0 H') (hs : σ.set i (some v0) = σ) (k : ∀ v H1, Ex H H1 → P v H1 → tz D (σ.set i (some v)) H1) :
    tSeq (tIfS t (tAsg te (gName i)) tNext) tz D σ H := by
  refine q_when h (fun hb H1 e1 => ?_) (fun hb H1 e1 => ?_)
  · exact he hb H1 e1 _ fun v H2 e2 p => k v H2 (e1.trans e2) p
  · have g := k v0 H1 e1 (h0 H1 e1)
    rw [hs] at g
    exact g
theorem es_add {m n : Nat} (h1 : EvS ta σ H (SomeT m)) (h2 : EvS tb σ H (SomeT n)) (hz : m + n ≤ 5000) :
    EvS (tOp (fun x y H Q => ∃ i j, x = .str i ∧ y = .str j ∧ i.length + j.length ≤ sizeLine ∧ Q (.str (i ++ j)) H) ta tb) σ H (SomeT (m + n)) := fun H1 e Q q =>
  h1 H1 e _ fun v H2 e2 p => h2 H2 (e.trans e2) _ fun w H3 e3 r => by
    obtain ⟨x, rfl, hx⟩ := p
    obtain ⟨y, rfl, hy⟩ := r
    refine ⟨x, y, rfl, rfl, sz_of (by omega), q _ H3 (e2.trans e3) ⟨_, rfl, ?_⟩⟩
    rw [TL.len_tl, TL.tl_append, List.length_append, ← TL.len_tl, ← TL.len_tl]
    omega
theorem es_cut {n : Nat} {tl th : TO} {lo hi : Option Int} (h : EvS te σ H (SomeT n)) (h1 : EvO tl σ H lo) (h2 : EvO th σ H hi) (hz : n ≤ 5000) : EvS (tSl rSlS te tl th) σ H (SomeT n) := fun H1 e Q q =>
  h H1 e _ fun v H2 e2 p => h1 H2 (e.trans e2) _ fun H3 e3 => h2 H3 ((e.trans e2).trans e3) _ fun H4 e4 => by
    obtain ⟨x, rfl, hx⟩ := p
    refine ⟨x, rfl, sz_of (by omega), q _ H4 ((e2.trans e3).trans e4) ⟨_, rfl, ?_⟩⟩
    have := cutS_length x lo hi
    omega
/-- [e for x, y in zip(a new tuple, b)] -/
theorem el_zipN {b : Addr} {xs ys : List V} {vs : List Nat} {tt : TT} {i j : Nat} (c : V → V → Bool) (g : V → V → V) (h1 : EvU ta σ H xs) (h2 : Ev tb σ H (.ref b)) (hy : SqT K H b ys) (hl : xs.length = ys.length) (hz : xs.length ≤ 1000)
    (hw : ∀ x y, wipe (((wipe σ vs).set i (some x)).set j (some y)) vs = wipe σ vs)
    (ht : ∀ x y H', Ex H H' → (x, y) ∈ xs.zip ys → EvT tt (((wipe σ vs).set i (some x)).set j (some y)) H' (c x y))
    (he : ∀ x y H', Ex H H' → (x, y) ∈ xs.zip ys → c x y = true → Ev te (((wipe σ vs).set i (some x)).set j (some y)) H' (g x y)) :
    EvL (tLc (iZipA K (tCons ta (tCons tb tNil))) (gTwo K i j) tt te vs) σ H (pick c g (xs.zip ys)) := fun H0 e Q q => h1 H0 e _ fun a H1 na e1 ha => h2 H1 (e.trans e1) _ fun H2 e2 =>
  ⟨a, b, xs, ys, rfl, Or.inr ⟨st_of (e2 _ _ ha), ex_t ((e.trans e1).trans e2) hy, fun D hD => lc_pairs (walkTT hl) hl hz c g hD (fun H' e3 => ⟨st_of (e3 _ _ (e2 _ _ ha)), ex_t (((e.trans e1).trans e2).trans e3) hy⟩) hw
    (fun x y H' e3 m => ht x y H' (((e.trans e1).trans e2).trans e3) m) (fun x y H' e3 m hc => he x y H' (((e.trans e1).trans e2).trans e3) m hc) fun H' e3 h3 => q D H' (fresh_back (e1.trans e2) hD) ((e1.trans e2).trans e3) h3⟩⟩
end
theorem tyx_tup {K : PySem.W.Frag} {H : Hp} {a : Addr} {xs : List V} (h : SqT K H a xs) : TyX K H (.ref a) (.type "tuple") := by
  rcases h with (h | ⟨o, h⟩) | ⟨o, its, n, h, c, _⟩
  · exact .base (.tup h)
  · exact .fTuple h
  · exact .kTuple h c
theorem tyx_lst {K : PySem.W.Frag} {H : Hp} {a : Addr} {xs : List V} (h : H a = some (.lst xs)) : TyX K H (.ref a) (.type "list") := .base (.lst h)
theorem get_int {xs : List Int} {i : Nat} {v : V} (h : (xs.map V.int)[i]? = some v) : ∃ x, v = .int x ∧ xs[i]? = some x ∧ x ∈ xs := by
  rw [List.getElem?_map] at h
  cases e : xs[i]? with
  | none =>
    rw [e] at h
    cases h
  | some x =>
    rw [e] at h
    cases h
    exact ⟨x, rfl, rfl, List.mem_of_getElem? e⟩
def lowB (xs ys : List Int) : Bool := (xs.zip ys).all fun p => decide (p.1 ≤ p.2)
theorem lowB_iff {xs ys : List Int} : lowB xs ys = true ↔ ∀ p ∈ xs.zip ys, p.1 ≤ p.2 := by
  unfold lowB
  simp only [List.all_eq_true, decide_eq_true_eq]
theorem zipI_mem {xs ys : List Int} {i : Nat} {x y : Int} (hx : xs[i]? = some x) (hy : ys[i]? = some y) : (x, y) ∈ xs.zip ys := by
  have h : (xs.zip ys)[i]? = some (x, y) := by
    rw [List.getElem?_zip_eq_some]
    exact ⟨hx, hy⟩
  exact List.mem_of_getElem? h
theorem zipI_next {xs ys : List Int} {i : Nat} {x y : Int} (hx : xs[i]? = some x) (hy : ys[i]? = some y) : (xs.zip ys).take (i + 1) = (xs.zip ys).take i ++ [(x, y)] := by
  have h : (xs.zip ys)[i]? = some (x, y) := by
    rw [List.getElem?_zip_eq_some]
    exact ⟨hx, hy⟩
  rw [List.take_add_one, h]
  rfl
def maxL (xs ys : List Int) : List Int := (xs.zip ys).map fun p => max p.1 p.2
def minL (xs ys : List Int) : List Int := (xs.zip ys).map fun p => min p.1 p.2
def lackI (xs ys : List Int) : Int := (((xs.zip ys).filter fun p => decide (p.1 < p.2)).map fun p => p.2 - p.1).sum
def tearI (xs ys : List Int) : Int := ((xs.zip ys).map fun p => max 0 (p.2 - p.1)).sum
theorem maxL_len {xs ys : List Int} (h : xs.length = ys.length) : (maxL xs ys).length = xs.length := by
  unfold maxL
  rw [List.length_map, List.length_zip]
  omega
theorem minL_len {xs ys : List Int} (h : xs.length = ys.length) : (minL xs ys).length = xs.length := by
  unfold minL
  rw [List.length_map, List.length_zip]
  omega
theorem maxL_cons (x y : Int) (xs ys : List Int) : maxL (x :: xs) (y :: ys) = max x y :: maxL xs ys := rfl
theorem minL_cons (x y : Int) (xs ys : List Int) : minL (x :: xs) (y :: ys) = min x y :: minL xs ys := rfl
theorem lowB_cons (x y : Int) (xs ys : List Int) : lowB (x :: xs) (y :: ys) = (decide (x ≤ y) && lowB xs ys) := rfl
theorem tearI_cons (x y : Int) (xs ys : List Int) : tearI (x :: xs) (y :: ys) = max 0 (y - x) + tearI xs ys := by
  unfold tearI
  rw [List.zip_cons_cons, List.map_cons, List.sum_cons]
theorem tearI_nil (ys : List Int) : tearI [] ys = 0 := rfl
theorem tearI_nil2 (xs : List Int) : tearI xs [] = 0 := by
  unfold tearI
  rw [List.zip_nil_right]
  rfl
theorem lackI_eq : ∀ xs ys : List Int, lackI xs ys = tearI xs ys
  | [], ys => rfl
  | x :: xs, [] => rfl
  | x :: xs, y :: ys => by
    have ih := lackI_eq xs ys
    rw [tearI_cons, ← ih]
    unfold lackI
    rw [List.zip_cons_cons, List.filter_cons]
    by_cases h : x < y
    · rw [if_pos (decide_eq_true h), List.map_cons, List.sum_cons]
      show (y - x) + _ = _
      omega
    · rw [if_neg (by rw [decide_eq_false h]; decide)]
      omega
theorem tearI_nonneg : ∀ xs ys : List Int, 0 ≤ tearI xs ys
  | [], ys => by rw [tearI_nil]; decide
  | x :: xs, [] => by rw [tearI_nil2]; decide
  | x :: xs, y :: ys => by
    have ih := tearI_nonneg xs ys
    rw [tearI_cons]
    omega
theorem low_max : ∀ xs ys zs : List Int, xs.length = ys.length → lowB (maxL xs ys) zs = (lowB xs zs && lowB ys zs)
  | [], ys, zs, h => by
    cases ys with
    | nil => rfl
    | cons y ys => cases h
  | x :: xs, [], zs, h => by cases h
  | x :: xs, y :: ys, [], _ => rfl
  | x :: xs, y :: ys, z :: zs, h => by
    have ih := low_max xs ys zs (Nat.succ.inj h)
    have h1 : decide (max x y ≤ z) = (decide (x ≤ z) && decide (y ≤ z)) := by
      rw [Bool.eq_iff_iff, Bool.and_eq_true, decide_eq_true_eq, decide_eq_true_eq, decide_eq_true_eq]
      omega
    rw [maxL_cons, lowB_cons, lowB_cons, lowB_cons, ih, h1]
    cases decide (x ≤ z) <;> cases decide (y ≤ z) <;> cases lowB xs zs <;> cases lowB ys zs <;> rfl
theorem low_min : ∀ xs ys zs : List Int, xs.length = ys.length → lowB zs (minL xs ys) = (lowB zs xs && lowB zs ys)
  | [], ys, zs, h => by
    cases ys with
    | nil => cases zs <;> rfl
    | cons y ys => cases h
  | x :: xs, [], zs, h => by cases h
  | x :: xs, y :: ys, [], _ => rfl
  | x :: xs, y :: ys, z :: zs, h => by
    have ih := low_min xs ys zs (Nat.succ.inj h)
    have h1 : decide (z ≤ min x y) = (decide (z ≤ x) && decide (z ≤ y)) := by
      rw [Bool.eq_iff_iff, Bool.and_eq_true, decide_eq_true_eq, decide_eq_true_eq, decide_eq_true_eq]
      omega
    rw [minL_cons, lowB_cons, lowB_cons, lowB_cons, ih, h1]
    cases decide (z ≤ x) <;> cases decide (z ≤ y) <;> cases lowB zs xs <;> cases lowB zs ys <;> rfl
theorem tear_max : ∀ xs ys : List Int, tearI xs (maxL xs ys) = tearI xs ys
  | [], ys => rfl
  | x :: xs, [] => rfl
  | x :: xs, y :: ys => by
    have ih := tear_max xs ys
    rw [maxL_cons, tearI_cons, tearI_cons, ih]
    omega
theorem tear_min : ∀ xs ys : List Int, tearI (minL xs ys) ys = tearI xs ys
  | [], ys => rfl
  | x :: xs, [] => by rw [tearI_nil2, tearI_nil2]
  | x :: xs, y :: ys => by
    have ih := tear_min xs ys
    rw [minL_cons, tearI_cons, tearI_cons, ih]
    omega
theorem tear_zero : ∀ xs ys : List Int, decide (tearI xs ys = 0) = lowB ys xs
  | [], ys => by cases ys <;> rfl
  | x :: xs, [] => by rw [tearI_nil2]; rfl
  | x :: xs, y :: ys => by
    have ih := tear_zero xs ys
    have h0 := tearI_nonneg xs ys
    rw [tearI_cons, lowB_cons, ← ih]
    rw [Bool.eq_iff_iff]
    simp only [Bool.and_eq_true, decide_eq_true_eq]
    omega
theorem tear_tri : ∀ xs ys zs : List Int, xs.length = ys.length → ys.length = zs.length → tearI xs zs ≤ tearI xs ys + tearI ys zs
  | [], ys, zs, _, _ => by
    have h1 := tearI_nonneg ys zs
    rw [tearI_nil, tearI_nil]
    omega
  | x :: xs, [], zs, h, _ => by cases h
  | x :: xs, y :: ys, [], _, h => by cases h
  | x :: xs, y :: ys, z :: zs, h1, h2 => by
    have ih := tear_tri xs ys zs (Nat.succ.inj h1) (Nat.succ.inj h2)
    rw [tearI_cons, tearI_cons, tearI_cons]
    omega
theorem tear_sum : ∀ xs ys zs : List Int, xs.length = ys.length → ys.length = zs.length → lowB xs ys = true → lowB ys zs = true → tearI xs zs = tearI xs ys + tearI ys zs
  | [], ys, zs, h1, h2, _, _ => by
    cases ys with
    | nil => rfl
    | cons y ys => cases h1
  | x :: xs, [], zs, h, _, _, _ => by cases h
  | x :: xs, y :: ys, [], _, h, _, _ => by cases h
  | x :: xs, y :: ys, z :: zs, h1, h2, l1, l2 => by
    rw [lowB_cons, Bool.and_eq_true, decide_eq_true_eq] at l1 l2
    have ih := tear_sum xs ys zs (Nat.succ.inj h1) (Nat.succ.inj h2) l1.2 l2.2
    rw [tearI_cons, tearI_cons, tearI_cons, ih]
    omega
theorem ear_zip {xs ys : List Int} {f : Int → Int → Int} (h1 : EarL xs) (h2 : EarL ys) (hf : ∀ x y : Int, 0 ≤ x ∧ x ≤ 9 → 0 ≤ y ∧ y ≤ 9 → 0 ≤ f x y ∧ f x y ≤ 9) : EarL ((xs.zip ys).map fun p => f p.1 p.2) := by
  refine ⟨by rw [List.length_map, List.length_zip, h1.1, h2.1]; rfl, fun z hz => ?_⟩
  obtain ⟨p, hp, rfl⟩ := List.mem_map.mp hz
  have m := List.of_mem_zip hp
  exact hf _ _ (h1.2 _ m.1) (h2.2 _ m.2)
theorem ear_max {xs ys : List Int} (h1 : EarL xs) (h2 : EarL ys) : EarL (maxL xs ys) := ear_zip h1 h2 (fun x y _ _ => by omega)
theorem ear_min {xs ys : List Int} (h1 : EarL xs) (h2 : EarL ys) : EarL (minL xs ys) := ear_zip h1 h2 (fun x y _ _ => by omega)
/-! ### numbers of ears -/
def wT : List Int := [100000, 10000, 1000, 100, 10, 1]
def numI (xs : List Int) : Int := ((xs.zip wT).map fun p => p.1 * p.2).sum
def digs (n : Int) : List Int := wT.map fun w => n / w % 10
def lessI : List Int → List Int → Bool
  | x :: xs, y :: ys => if x = y then lessI xs ys else decide (x < y)
  | _, _ => false
theorem six {xs : List Int} (h : EarL xs) : ∃ a b c d e f : Int, xs = [a, b, c, d, e, f] ∧ (0 ≤ a ∧ a ≤ 9) ∧ (0 ≤ b ∧ b ≤ 9) ∧ (0 ≤ c ∧ c ≤ 9) ∧ (0 ≤ d ∧ d ≤ 9) ∧ (0 ≤ e ∧ e ≤ 9) ∧ 0 ≤ f ∧ f ≤ 9 := by
  obtain ⟨hl, hb⟩ := h
  match xs, hl with
  | [a, b, c, d, e, f], _ => exact ⟨a, b, c, d, e, f, rfl, hb a (by simp), hb b (by simp), hb c (by simp), hb d (by simp), hb e (by simp), hb f (by simp)⟩
theorem numI_six (a b c d e f : Int) : numI [a, b, c, d, e, f] = a * 100000 + b * 10000 + c * 1000 + d * 100 + e * 10 + f := by
  show (a * 100000 + (b * 10000 + (c * 1000 + (d * 100 + (e * 10 + (f * 1 + 0)))))) = _
  omega
theorem numI_in {xs : List Int} (h : EarL xs) : 0 ≤ numI xs ∧ numI xs ≤ 999999 := by
  obtain ⟨a, b, c, d, e, f, rfl, _⟩ := six h
  rw [numI_six]
  omega
theorem digs_num {xs : List Int} (h : EarL xs) : digs (numI xs) = xs := by
  obtain ⟨a, b, c, d, e, f, rfl, ha, hb, hc, hd, he, hf⟩ := six h
  rw [numI_six]
  unfold digs wT
  simp only [List.map_cons, List.map_nil, List.cons.injEq, and_true]
  refine ⟨?_, ?_, ?_, ?_, ?_, ?_⟩ <;> omega
theorem less_num {xs ys : List Int} (h : EarL xs) (k : EarL ys) : decide (numI xs < numI ys) = lessI xs ys := by
  obtain ⟨a, b, c, d, e, f, rfl, ha, hb, hc, hd, he, hf⟩ := six h
  obtain ⟨a', b', c', d', e', f', rfl, ha', hb', hc', hd', he', hf'⟩ := six k
  rw [numI_six, numI_six]
  simp only [lessI]
  repeat' split
  all_goals (first | (rw [decide_eq_false]; omega) | (rw [decide_eq_decide]; omega))
theorem wT_in {x : Int} (m : x ∈ wT) : 0 < x ∧ x < 1073741824 := by
  have m' : x = 100000 ∨ x = 10000 ∨ x = 1000 ∨ x = 100 ∨ x = 10 ∨ x = 1 := by simpa [wT] using m
  omega
theorem four_at (y : Int) : ∃ v : Int, atI ([0, 0 - 1, 999999, 1000000].map V.int) (y % 4) = some (.int v) := by
  have h : (y % 4).toNat < ([0, 0 - 1, 999999, 1000000] : List Int).length := by
    show (y % 4).toNat < 4
    omega
  exact ⟨[0, 0 - 1, 999999, 1000000][(y % 4).toNat], at_of (j := (y % 4).toNat) (by omega) (by rw [List.getElem?_map, List.getElem?_eq_getElem h]; rfl)⟩
end Ear

namespace Ear
open PySem PySem.Spec PyProof.Rows L2 Evl RZ
/-! ### lists of values that stand for others -/
def All2 {α : Type} (R : V → α → Prop) (ws : List V) (L : List α) : Prop := ws.length = L.length ∧ ∀ (i : Nat) (v : V) (x : α), ws[i]? = some v → L[i]? = some x → R v x
theorem All2.imp {α : Type} {R S : V → α → Prop} {ws : List V} {L : List α} (h : All2 R ws L) (k : ∀ v x, R v x → S v x) : All2 S ws L := ⟨h.1, fun i v x a b => k v x (h.2 i v x a b)⟩
theorem All2.nil {α : Type} {R : V → α → Prop} : All2 R [] [] := ⟨rfl, fun i v x a _ => by simp at a⟩
theorem All2.snoc {α : Type} {R : V → α → Prop} {ws : List V} {L : List α} {v : V} {x : α} (h : All2 R ws L) (k : R v x) : All2 R (ws ++ [v]) (L ++ [x]) := by
  refine ⟨by rw [List.length_append, List.length_append, h.1]; rfl, fun i u y a b => ?_⟩
  by_cases hi : i < ws.length
  · rw [List.getElem?_append_left hi] at a
    rw [List.getElem?_append_left (by rw [← h.1]; exact hi)] at b
    exact h.2 i u y a b
  · rw [List.getElem?_append_right (by omega)] at a
    rw [List.getElem?_append_right (by rw [← h.1]; omega), ← h.1] at b
    have hj : i - ws.length = 0 := by
      have := (List.getElem?_eq_some_iff.mp a).1
      simp only [List.length_cons, List.length_nil] at this
      omega
    rw [hj] at a b
    cases a
    cases b
    exact k
def EarAt (H : Hp) (v : V) (l : List Int) : Prop := ∃ h : Addr, v = .ref h ∧ H h = some (.tup (l.map V.int))
theorem EarAt.mono {H H' : Hp} (e : Ex H H') {v : V} {l : List Int} (h : EarAt H v l) : EarAt H' v l := by
  obtain ⟨a, e1, h1⟩ := h
  exact ⟨a, e1, e _ _ h1⟩
theorem EarAt.upd {H : Hp} {D : Addr} {acc : List V} {o : HO} (hD : H D = some (.lst acc)) {v : V} {l : List Int} (h : EarAt H v l) : EarAt (upd H D o) v l := by
  obtain ⟨a, e1, h1⟩ := h
  refine ⟨a, e1, ?_⟩
  rw [upd_ne (fun z => by rw [z, hD] at h1; cases h1)]
  exact h1

/-! ### rows (owner, ear) -/
abbrev Rw : Type := Int × List Int
def RowAt (H : Hp) (v : V) (r : Rw) : Prop := ∃ t m : Addr, v = .ref t ∧ H t = some (.tup [.int r.1, .ref m]) ∧ H m = some (.tup (r.2.map V.int))
theorem RowAt.mono {H H' : Hp} (e : Ex H H') {v : V} {r : Rw} (h : RowAt H v r) : RowAt H' v r := by
  obtain ⟨t, m, e1, h1, h2⟩ := h
  exact ⟨t, m, e1, e _ _ h1, e _ _ h2⟩
theorem RowAt.upd {H : Hp} {D : Addr} {acc : List V} {o : HO} (hD : H D = some (.lst acc)) {v : V} {r : Rw} (h : RowAt H v r) : RowAt (upd H D o) v r := by
  obtain ⟨t, m, e1, h1, h2⟩ := h
  refine ⟨t, m, e1, ?_, ?_⟩
  · rw [upd_ne (fun z => by rw [z, hD] at h1; cases h1)]
    exact h1
  · rw [upd_ne (fun z => by rw [z, hD] at h2; cases h2)]
    exact h2
def RowOk (r : Rw) : Prop := 1 ≤ r.1 ∧ EarL r.2
/-- what the law hands in as rows -/
structure Tab (R : List Rw) : Prop where
  len : R.length ≤ 128
  ok : ∀ r ∈ R, RowOk r
  few : ∃ D : List Rw, D.length ≤ 64 ∧ ∀ r ∈ R, r ∈ D
theorem Tab.sub {R S : List Rw} (h : Tab R) (hs : ∀ r ∈ S, r ∈ R) (hl : S.length ≤ 128) : Tab S := by
  obtain ⟨D, d1, d2⟩ := h.few
  exact ⟨hl, fun r hr => h.ok r (hs r hr), D, d1, fun r hr => d2 r (hs r hr)⟩
theorem All2.get {α : Type} {R : V → α → Prop} {ws : List V} {L : List α} (h : All2 R ws L) {i : Nat} {v : V} (g : ws[i]? = some v) : ∃ x, L[i]? = some x ∧ R v x := by
  have hi := (List.getElem?_eq_some_iff.mp g).1
  have hi' : i < L.length := by
    rw [← h.1]
    exact hi
  exact ⟨L[i], List.getElem?_eq_getElem hi', h.2 i v _ g (List.getElem?_eq_getElem hi')⟩
theorem All2.mem {α : Type} {R : V → α → Prop} {ws : List V} {L : List α} (h : All2 R ws L) {v : V} (m : v ∈ ws) : ∃ x, x ∈ L ∧ R v x := by
  obtain ⟨i, hi, e⟩ := List.getElem_of_mem m
  obtain ⟨x, g, r⟩ := h.get (List.getElem?_eq_some_iff.mpr ⟨hi, e⟩)
  exact ⟨x, List.mem_of_getElem? g, r⟩
theorem All2.take {α : Type} {R : V → α → Prop} {ws : List V} {L : List α} (h : All2 R ws L) (n : Nat) : All2 R (ws.take n) (L.take n) := by
  refine ⟨by rw [List.length_take, List.length_take, h.1], fun i v x a b => ?_⟩
  rw [List.getElem?_take] at a b
  by_cases c : i < n
  · rw [if_pos c] at a b
    exact h.2 i v x a b
  · rw [if_neg c] at a
    cases a
theorem All2.drop {α : Type} {R : V → α → Prop} {ws : List V} {L : List α} (h : All2 R ws L) (n : Nat) : All2 R (ws.drop n) (L.drop n) := by
  refine ⟨by rw [List.length_drop, List.length_drop, h.1], fun i v x a b => ?_⟩
  rw [List.getElem?_drop] at a b
  exact h.2 _ v x a b
theorem All2.app {α : Type} {R : V → α → Prop} {ws us : List V} {L M : List α} (h : All2 R ws L) (k : All2 R us M) : All2 R (ws ++ us) (L ++ M) := by
  refine ⟨by rw [List.length_append, List.length_append, h.1, k.1], fun i v x a b => ?_⟩
  by_cases hi : i < ws.length
  · rw [List.getElem?_append_left hi] at a
    rw [List.getElem?_append_left (by rw [← h.1]; exact hi)] at b
    exact h.2 i v x a b
  · rw [List.getElem?_append_right (by omega)] at a
    rw [List.getElem?_append_right (by rw [← h.1]; omega), ← h.1] at b
    exact k.2 _ v x a b
theorem All2.rev {α : Type} {R : V → α → Prop} {ws : List V} {L : List α} (h : All2 R ws L) : All2 R ws.reverse L.reverse := by
  refine ⟨by rw [List.length_reverse, List.length_reverse, h.1], fun i v x a b => ?_⟩
  have hi := (List.getElem?_eq_some_iff.mp a).1
  rw [List.length_reverse] at hi
  rw [List.getElem?_reverse hi] at a
  rw [List.getElem?_reverse (by rw [← h.1]; exact hi), ← h.1] at b
  exact h.2 _ v x a b
/-- a list's part, of ints -/
theorem cut_ints (ns : List Int) (lo hi : Option Int) : ∃ cs : List Int, cutV (ns.map V.int) lo hi = cs.map V.int ∧ ∀ c ∈ cs, c ∈ ns := by
  refine ⟨(ns.drop (HT.sIx (ns.map V.int).length 0 lo)).take (HT.sIx (ns.map V.int).length (ns.map V.int).length hi - HT.sIx (ns.map V.int).length 0 lo), ?_, fun c hc => List.mem_of_mem_drop (List.mem_of_mem_take hc)⟩
  unfold cutV
  rw [List.map_take, List.map_drop]
theorem cut_between (xs : List V) (i j : Nat) (h : i ≤ j) : cutV xs (some (i : Int)) (some (j : Int)) = (xs.drop i).take (j - i) := by
  unfold cutV
  rw [HT.sIx_nat, HT.sIx_nat]
  by_cases c : i ≤ xs.length
  · rw [show min i xs.length = i by omega]
    by_cases d : j ≤ xs.length
    · rw [show min j xs.length = j by omega]
    · rw [show min j xs.length = xs.length by omega, List.take_of_length_le (by rw [List.length_drop]; omega), List.take_of_length_le (by rw [List.length_drop]; omega)]
  · rw [List.drop_eq_nil_of_le (by omega : xs.length ≤ min i xs.length), List.drop_eq_nil_of_le (by omega : xs.length ≤ i)]
    rw [List.take_nil, List.take_nil]
theorem cut_14 (ns : List Int) {i : Int} (h : 0 ≤ i) : ∃ cs : List Int, cutV (ns.map V.int) (some i) (some (i + 14)) = cs.map V.int ∧ cs.length ≤ 14 := by
  refine ⟨(ns.drop i.toNat).take 14, ?_, by rw [List.length_take]; omega⟩
  have e := cut_between (ns.map V.int) i.toNat (i.toNat + 14) (by omega)
  rw [show ((i.toNat : Nat) : Int) = i by omega, show (((i.toNat + 14 : Nat)) : Int) = i + 14 by omega] at e
  rw [e, List.map_take, List.map_drop, show i.toNat + 14 - i.toNat = 14 by omega]
theorem cut_39 {xs : List Int} (hl : (xs.length : Int) = 10) (hb : ∀ x ∈ xs, 0 ≤ x ∧ x < 10) : cutV (xs.map V.int) (some 3) (some 9) = ((xs.drop 3).take 6).map V.int ∧ EarL ((xs.drop 3).take 6) := by
  refine ⟨?_, by rw [List.length_take, List.length_drop]; omega, fun x hx => ?_⟩
  · have e := cut_between (xs.map V.int) 3 9 (by omega)
    rw [List.map_take, List.map_drop]
    exact e
  · have := hb x (List.mem_of_mem_drop (List.mem_of_mem_take hx))
    omega
theorem at_10 {xs : List Int} (hl : (xs.length : Int) = 10) (j : Nat) (hj : j < 10) : ∃ v, atI (xs.map V.int) (j : Int) = some (.int v) ∧ v ∈ xs := by
  have h6 : j < xs.length := by omega
  exact ⟨xs[j], at_of (j := j) rfl (by rw [List.getElem?_map, List.getElem?_eq_getElem h6]; rfl), List.getElem_mem h6⟩

/-! ### rules over data of any depth: sorted(xs), min(xs, default=d), x < y -/
theorem minD_mem : ∀ (xs : List PyData) (x : PyData), PySem.W.minD x xs ∈ x :: xs
  | [], x => List.mem_singleton.mpr rfl
  | y :: ys, x => by
    show PySem.W.minD (if PySem.W.dataLt y x then y else x) ys ∈ x :: y :: ys
    have ih := minD_mem ys (if PySem.W.dataLt y x then y else x)
    rcases List.mem_cons.mp ih with e | m
    · rw [e]
      split
      · exact List.mem_cons_of_mem _ List.mem_cons_self
      · exact List.mem_cons_self
    · exact List.mem_cons_of_mem _ (List.mem_cons_of_mem _ m)
@[irreducible] def rMinDat (K : PySem.W.Frag) : List V → List V → Hp → VK → Prop := fun vs zs H Q => ∃ (a : Addr) (xs : List V) (ds : List PyData) (d : V), vs = [V.ref a] ∧ zs = [d] ∧ SqL K H a xs ∧ DpAll K H xs ds ∧ PySem.W.AlikeAll ds ∧ PyData.depthAll ds ≤ 60 ∧
  (ds = [] → Q d H) ∧ ∀ (y : PyData) (ys : List PyData) (i : Nat) (x : V), ds = y :: ys → xs[i]? = some x → ds[i]? = some (PySem.W.minD y ys) → Q x H
section
variable {X : Cx}
theorem cr_minDat (hu : X.A.units + 65 < cLine) (hc : X.calm = true) : CallRK X (.builtin "min") [Str.ofString "default"] (rMinDat X.K) := by
  intro pins s σ H vs zs us ws Q I r1 r2 h
  unfold rMinDat at h
  obtain ⟨a, xs, ds, d, rfl, rfl, hs, hd, ha, hz, q0, q⟩ := h
  obtain ⟨u, rfl, ru⟩ := vals1 r1
  obtain ⟨wd, rfl, rd⟩ := vals1 r2
  obtain rfl : u = Value.ref a := ru
  obtain ⟨its, rv, hl, _⟩ := I.list hs
  obtain ⟨as, hr⟩ := Dp.readsAll I ds xs its hd rv
  refine PySem.W.min_list_default (I.ok.hd hc) hl.isList hr ha (by omega) (fun e h' tk k => ?_) (fun y ys i v h' tk bs e hv rm k => ?_)
  · exact ⟨d, H, I.kept (t' := tk) k, rd, q0 e⟩
  · have hv' : its[i]? = some v := by simpa using hv
    have hi : i < its.length := (List.getElem?_eq_some_iff.mp hv').1
    have hx : i < xs.length := by
      rw [rv.length]
      exact hi
    obtain ⟨v', gv, rx⟩ := rv.get (List.getElem?_eq_getElem hx)
    obtain rfl : v' = v := Option.some.inj (gv.symm.trans hv')
    have hn := SeqAt.ReadsAll.length ds its as hr
    have hdi : i < ds.length := by omega
    obtain ⟨bs2, r, _⟩ := PySem.W.readsAll_atA (vs := its.toArray) hr i v' (by simpa using hv')
    have eg : ds.getD i .none = ds[i] := by
      rw [List.getD_eq_getElem?_getD, List.getElem?_eq_getElem hdi]
      rfl
    rw [eg] at r
    have m1 : ds[i] ∈ ds := List.getElem_mem hdi
    have m2 : PySem.W.minD y ys ∈ ds := by
      rw [e]
      exact minD_mem ys y
    have eq := PySem.W.alike_unique _ _ _ _ _ (ha.1 _ m1 _ m2) (PySem.W.reads_keeps k r) rm
    exact ⟨xs[i], H, I.kept (t' := tk) k, rx, q y ys i _ e (List.getElem?_eq_getElem hx) (by rw [List.getElem?_eq_getElem hdi, eq])⟩
/-- sorted(xs): a new list of the same, sorted as data are -/
def Srt2 (xs : List V) (ds : List PyData) (x : V) (d : PyData) : Prop := ∃ i : Nat, xs[i]? = some x ∧ ds[i]? = some d
@[irreducible] def rSortDat (K : PySem.W.Frag) : List V → Hp → VK → Prop := fun vs H Q => ∃ (a : Addr) (xs : List V) (ds : List PyData), vs = [V.ref a] ∧ SqL K H a xs ∧ DpAll K H xs ds ∧ PySem.W.AllAlike ds ∧ PySem.W.Sortable ds ∧ (∀ d ∈ ds, d.depth ≤ 60) ∧
  ∀ (ys : List V) (p : Addr), All2 (Srt2 xs ds) ys (ds.mergeSort (PySem.W.dataLe false id)) → H p = none → Q (.ref p) (upd H p (.lst ys))
theorem each_zip : ∀ (xs : List V) (ds : List PyData) (its : List Value) (P : Value → PyData → Prop), Vals xs its → PySem.W.EachIs P its ds →
    PySem.W.EachIs (fun v d => ∃ (i : Nat) (x : V), RelV x v ∧ xs[i]? = some x ∧ ds[i]? = some d) its ds
  | [], _, _, _, .nil, .nil => .nil
  | _ :: _, [], _, _, .cons _ _, k => nomatch k
  | x :: xs, d :: ds, u :: us, P, .cons r t, .cons _ k => .cons ⟨0, x, r, rfl, rfl⟩ ((each_zip xs ds us P t k).mono fun v d ⟨i, y, a, b, c⟩ => ⟨i + 1, y, a, b, c⟩)
theorem each_vals {xs : List V} {ds : List PyData} : ∀ (out : List Value) (L : List PyData), PySem.W.EachIs (fun v d => ∃ (i : Nat) (x : V), RelV x v ∧ xs[i]? = some x ∧ ds[i]? = some d) out L → ∃ ys, Vals ys out ∧ All2 (Srt2 xs ds) ys L
  | [], [], .nil => ⟨[], .nil, All2.nil⟩
  | v :: out, d :: L, .cons ⟨i, x, r, a, b⟩ k => by
    obtain ⟨ys, h1, h2⟩ := each_vals out L k
    refine ⟨x :: ys, .cons r h1, by rw [List.length_cons, List.length_cons, h2.1], fun j u y g1 g2 => ?_⟩
    cases j with
    | zero =>
      cases g1
      cases g2
      exact ⟨i, a, b⟩
    | succ j => exact h2.2 j u y g1 g2
theorem cr_sortDat (hu : X.A.units + 65 < cLine) : CallR X (.builtin "sorted") (rSortDat X.K) := by
  intro pins s σ H vs us Q I r h
  unfold rSortDat at h
  obtain ⟨a, xs, ds, rfl, hs, hd, hal, hk, hz, q⟩ := h
  obtain ⟨u, rfl, ru⟩ := vals1 r
  obtain rfl : u = Value.ref a := ru
  obtain ⟨its, rv, hl, hsz⟩ := I.list hs
  obtain ⟨as, hr⟩ := Dp.readsAll I ds xs its hd rv
  have er : PySem.W.EachIs (fun v d => ∃ as, Reads s.heap v (id d) as) its ds := PySem.W.readsAll_each id (by rw [List.map_id]; exact hr)
  have hn := SeqAt.ReadsAll.length ds its as hr
  have hl2 := rv.length
  refine PySem.W.sorted_data (enc := id) hl.isList (each_zip xs ds its _ rv er) er (by rw [List.map_id]; exact hal) (by rw [List.map_id]; exact hk) (by omega) (fun d m => ?_) fun out hlen hout => ?_
  · have := hz d m
    show X.A.units + 2 + d.depth < cLine
    omega
  · obtain ⟨ys, v1, v2⟩ := each_vals out _ hout
    obtain ⟨ep, he'⟩ := PyProof.Rows.sortedAll_at s.heap its out.toArray
    have hy : ys.length = ds.length := by
      rw [v2.1, List.length_mergeSort]
    refine ⟨.ref _, upd H (s.heap.objs.size + 1) (.lst ys), I.laid (t' := s.toks) (fun _ _ => PyProof.Rows.sortedAll_old) (Nat.le_succ _) ⟨by omega, out, ep, v1, by simpa using he'⟩, rfl, q ys _ v2 (I.hok.fresh (Nat.le_succ _))⟩
end
/-- x < y -/
@[irreducible] def rLtDat (K : PySem.W.Frag) : R2 := fun x y H Q => ∃ d e : PyData, Dp K H x d ∧ Dp K H y e ∧ PySem.W.alike d e = true ∧ d ≠ .none ∧ d.depth ≤ 60 ∧ Q (.bl (PySem.W.dataLt d e)) H
theorem op_ltDat {X : Cx} (hu : X.A.units + 65 < cLine) : OpR X (compareOp .Lt) (rLtDat X.K) := by
  intro pins s σ H x y v u Q I rx ry h
  unfold rLtDat at h
  obtain ⟨d, e, hd, he, ha, hn, hz, q⟩ := h
  obtain ⟨as, r1⟩ := Dp.reads I d x v hd rx
  obtain ⟨bs, r2⟩ := Dp.reads I e y u he ry
  exact PySem.W.lt_data r1 r2 ha hn (by omega) ⟨.bl _, H, I, rfl, q⟩

/-! ### comprehensions over lists whose items stand for others -/
def EvR (te : TE) (σ : L2.St) (H : Hp) (P : List V → Hp → Prop) : Prop := ∀ H1, Ex H H1 → ∀ Q : VK, (∀ p H2 us, Ex H1 H2 → H2 p = some (.lst us) → P us H2 → Q (.ref p) H2) → te σ H1 Q
def EvM (te : TE) (σ : L2.St) (H : Hp) (P : List V → Hp → Prop) : Prop := ∀ H1, Ex H H1 → ∀ Q : VK, (∀ p H2 us, H1 p = none → Ex H1 H2 → H2 p = some (.lst us) → P us H2 → Q (.ref p) H2) → te σ H1 Q
structure Stay {α : Type} (Rel : Hp → V → α → Prop) : Prop where
  mono : ∀ {H H' : Hp} {v : V} {x : α}, Ex H H' → Rel H v x → Rel H' v x
  upd : ∀ {H : Hp} {D : Addr} {acc : List V} {o : HO} {v : V} {x : α}, H D = some (.lst acc) → Rel H v x → Rel (upd H D o) v x
theorem All2.mono {α : Type} {Rel : Hp → V → α → Prop} (S : Stay Rel) {H H' : Hp} (e : Ex H H') {ws : List V} {L : List α} (h : All2 (Rel H) ws L) : All2 (Rel H') ws L := h.imp fun _ _ r => S.mono e r
theorem All2.upd {α : Type} {Rel : Hp → V → α → Prop} (S : Stay Rel) {H : Hp} {D : Addr} {acc : List V} {o : HO} (hD : H D = some (.lst acc)) {ws : List V} {L : List α} (h : All2 (Rel H) ws L) : All2 (Rel (upd H D o)) ws L := h.imp fun _ _ r => S.upd hD r
theorem stay_ear : Stay EarAt := ⟨fun e h => h.mono e, fun hD h => h.upd hD⟩
theorem stay_row : Stay RowAt := ⟨fun e h => h.mono e, fun hD h => h.upd hD⟩
/-- scalars -/
def ValAt {α : Type} (g : α → V) (_ : Hp) (v : V) (x : α) : Prop := v = g x
theorem stay_val {α : Type} (g : α → V) : Stay (ValAt g) := ⟨fun _ h => h, fun _ h => h⟩
theorem all_val {α : Type} {g : α → V} {H : Hp} : ∀ {ws : List V} {L : List α}, All2 (ValAt g H) ws L → ws = L.map g
  | [], [], _ => rfl
  | [], _ :: _, h => nomatch h.1
  | _ :: _, [], h => nomatch h.1
  | w :: ws, x :: L, h => by
    have e : w = g x := h.2 0 w x rfl rfl
    rw [List.map_cons, ← all_val (ws := ws) (L := L) ⟨Nat.succ.inj h.1, fun i v y a b => h.2 (i + 1) v y a b⟩, e]
theorem val_all {α : Type} {g : α → V} {H : Hp} (L : List α) : All2 (ValAt g H) (L.map g) L := ⟨by rw [List.length_map], fun i v x a b => by
  rw [List.getElem?_map, b] at a
  exact (Option.some.inj a).symm⟩
theorem filt_next2 {α : Type} {L : List α} {n : Nat} {x : α} (g : L[n]? = some x) (f : α → Bool) : (L.take (n + 1)).filter f = (L.take n).filter f ++ (if f x = true then [x] else []) := by
  rw [List.take_add_one, g, List.filter_append]
  congr 1
  by_cases h : f x = true
  · rw [if_pos h]
    simp [h]
  · rw [if_neg h]
    simp [h]
section
variable {K : PySem.W.Frag} {σ : L2.St} {H : Hp} {te tl : TE} {tt : TT} {vs : List Nat} {α : Type}
theorem er_var {i : Nat} {b : Addr} {ws : List V} {P : List V → Hp → Prop} (h : σ[i]? = some (some (.ref b))) (hb : H b = some (.lst ws)) (hP : ∀ H', Ex H H' → P ws H') : EvR (tVar i) σ H P := fun H1 e Q q => ⟨_, h, q b H1 ws (Ex.refl H1) (e _ _ hb) (hP H1 e)⟩
theorem EvM.r {P : List V → Hp → Prop} (h : EvM te σ H P) : EvR te σ H P := fun H1 e Q q => h H1 e Q fun p H2 us _ a b c => q p H2 us a b c
theorem EvM.imp {P R : List V → Hp → Prop} (h : EvM te σ H P) (k : ∀ us H', P us H' → R us H') : EvM te σ H R := fun H1 e Q q => h H1 e Q fun p H2 us n a b c => q p H2 us n a b (k us H2 c)
/-- [e for g in l if t] -/
theorem em_list {L : List α} {P : Hp → V → α → Prop} {g : TG} (Rel : Hp → V → α → Prop) (SR : Stay Rel) (SP : Stay P) (c : α → Bool) (h : EvR tl σ H (fun ws H1 => All2 (P H1) ws L)) (hz : L.length ≤ 5000)
    (turn : ∀ x ∈ L, ∀ (v : V) (H' : Hp), Ex H H' → P H' v x → ∀ (Qy : VK) (Qn : Hp → Prop), (c x = true → ∀ y H2, Ex H' H2 → Rel H2 y x → Qy y H2) → (c x = false → ∀ H2, Ex H' H2 → Qn H2) →
      g v (wipe σ vs) H' fun σ2 H2 => wipe σ2 vs = wipe σ vs ∧ tt σ2 H2 fun b H3 => if b = true then te σ2 H3 Qy else Qn H3) :
    EvM (tLc (iList K tl) g tt te vs) σ H (fun us H2 => All2 (Rel H2) us (L.filter c)) := fun H0 e0 Q q => h H0 e0 _ fun b H1 ws e1 hb hA => by
  refine ⟨b, rfl, ⟨ws, sq_of hb⟩, fun D hD => ?_⟩
  have f1 := e0.trans e1
  refine lc_it (walk_list (K := K) (a := b) (xs := ws)) (fun n Ha => Ex H1 Ha ∧ ∃ us, Ha D = some (.lst us) ∧ All2 (Rel Ha) us ((L.take n).filter c)) ⟨Ex.new hD, [], upd_same, All2.nil⟩ (fun n Ha _ p => sq_of (p.1 _ _ hb)) ?_ ?_
  · rintro n v Ha Hb hn ⟨ea, us, hu, hU⟩ ⟨rfl, gw⟩
    obtain ⟨x, gx, rx⟩ := hA.get gw
    have hn' : n < L.length := (List.getElem?_eq_some_iff.mp gx).1
    refine turn x (List.mem_of_getElem? gx) v _ (f1.trans ea) (SP.mono ea rx) _ _ (fun hc y H2 e2 ry => ?_) (fun hc H2 e2 => ?_)
    · have hu2 := e2 _ _ hu
      refine ⟨us, hu2, sz_lt ?_, Ex.mut (ea.trans e2) hD, us ++ [y], upd_same, ?_⟩
      · rw [hU.1]
        have t1 := List.length_filter_le c (L.take n)
        have t2 : (L.take n).length ≤ L.length := by
          rw [List.length_take]
          omega
        omega
      · rw [filt_next2 gx, if_pos hc]
        exact All2.snoc (All2.upd SR hu2 (All2.mono SR e2 hU)) (SR.upd hu2 ry)
    · refine ⟨ea.trans e2, us, e2 _ _ hu, ?_⟩
      rw [filt_next2 gx, if_neg (by rw [hc]; exact Bool.false_ne_true), List.append_nil]
      exact All2.mono SR e2 hU
  · rintro Ha ⟨ea, us, hu, hU⟩
    rw [hA.1, List.take_of_length_le (Nat.le_refl _)] at hU
    exact q D Ha us (fresh_back e1 hD) (e1.trans ea) hu hU
/-- [e for g in range(n) if t] -/
theorem em_rng1 {ta : TA} {g : TG} {n : Int} (Rel : Hp → V → Nat → Prop) (SR : Stay Rel) (c : Nat → Bool) (h : EvA ta σ H [.int n]) (hn : 0 ≤ n ∧ n ≤ 5000)
    (turn : ∀ x, x < n.toNat → ∀ (H' : Hp), Ex H H' → ∀ (Qy : VK) (Qn : Hp → Prop), (c x = true → ∀ y H2, Ex H' H2 → Rel H2 y x → Qy y H2) → (c x = false → ∀ H2, Ex H' H2 → Qn H2) →
      g (.int (x : Int)) (wipe σ vs) H' fun σ2 H2 => wipe σ2 vs = wipe σ vs ∧ tt σ2 H2 fun b H3 => if b = true then te σ2 H3 Qy else Qn H3) :
    EvM (tLc (iRng1 ta) g tt te vs) σ H (fun us H2 => All2 (Rel H2) us ((List.range n.toNat).filter c)) := fun H0 e0 Q q => h H0 e0 _ fun H1 e1 => by
  refine ⟨n, rfl, by omega, by omega, fun D hD => ?_⟩
  have f1 := e0.trans e1
  have hr : ∀ k, k ≤ n.toNat → (List.range n.toNat).take k = List.range k := fun k hk => by
    rw [List.take_range]
    congr 1
    omega
  refine lc_it (walk_range (lo := 0) (n := n.toNat)) (fun k Ha => Ex H1 Ha ∧ ∃ us, Ha D = some (.lst us) ∧ All2 (Rel Ha) us (((List.range n.toNat).take k).filter c)) ⟨Ex.new hD, [], upd_same, All2.nil⟩ (fun _ _ _ _ => trivial) ?_ ?_
  · rintro k v Ha Hb hk ⟨ea, us, hu, hU⟩ ⟨rfl, rfl⟩
    have gx : (List.range n.toNat)[k]? = some k := by
      rw [List.getElem?_range hk]
    have tn := turn k hk Hb (f1.trans ea)
    rw [← Int.zero_add (k : Int)] at tn
    refine tn _ _ (fun hc y H2 e2 ry => ?_) (fun hc H2 e2 => ?_)
    · have hu2 := e2 _ _ hu
      refine ⟨us, hu2, sz_lt ?_, Ex.mut (ea.trans e2) hD, us ++ [y], upd_same, ?_⟩
      · rw [hU.1]
        have t1 := List.length_filter_le c ((List.range n.toNat).take k)
        rw [hr k (by omega), List.length_range] at t1
        rw [hr k (by omega)]
        omega
      · rw [filt_next2 gx, if_pos hc]
        exact All2.snoc (All2.upd SR hu2 (All2.mono SR e2 hU)) (SR.upd hu2 ry)
    · refine ⟨ea.trans e2, us, e2 _ _ hu, ?_⟩
      rw [filt_next2 gx, if_neg (by rw [hc]; exact Bool.false_ne_true), List.append_nil]
      exact All2.mono SR e2 hU
  · rintro Ha ⟨ea, us, hu, hU⟩
    rw [hr _ (Nat.le_refl _)] at hU
    exact q D Ha us (fresh_back e1 hD) (e1.trans ea) hu hU
/-- some int -/
def IntAt {α : Type} (_ : Hp) (v : V) (_ : α) : Prop := ∃ i : Int, v = .int i
theorem stay_int {α : Type} : Stay (IntAt (α := α)) := ⟨fun _ h => h, fun _ h => h⟩
theorem all_int {α : Type} {H : Hp} : ∀ {ws : List V} {L : List α}, All2 (IntAt H) ws L → ∃ is : List Int, ws = is.map V.int ∧ is.length = L.length
  | [], [], _ => ⟨[], rfl, rfl⟩
  | [], _ :: _, h => nomatch h.1
  | _ :: _, [], h => nomatch h.1
  | w :: ws, x :: L, h => by
    obtain ⟨i, e⟩ : IntAt H w x := h.2 0 w x rfl rfl
    obtain ⟨is, e1, e2⟩ := all_int (ws := ws) (L := L) ⟨Nat.succ.inj h.1, fun i v y a b => h.2 (i + 1) v y a b⟩
    exact ⟨i :: is, by rw [e, e1]; rfl, by rw [List.length_cons, List.length_cons, e2]⟩
theorem q_asgM {i : Nat} {D : Ends} {tz : TS} {P : List V → Hp → Prop} (h : EvM te σ H P) (k : ∀ p H1 us, H p = none → Ex H H1 → H1 p = some (.lst us) → P us H1 → tz D (σ.set i (some (.ref p))) H1) : tSeq (tAsg te (gName i)) tz D σ H := h H (Ex.refl H) _ fun p H1 us n e a b => k p H1 us n e a b
theorem s_retM {D : Ends} {P : List V → Hp → Prop} (h : EvM te σ H P) (k : ∀ p H1 us, H p = none → Ex H H1 → H1 p = some (.lst us) → P us H1 → D.rt (.ref p) H1) : tRet te D σ H := h H (Ex.refl H) _ k
theorem q_callM {i : Nat} {D : Ends} {tz : TS} {sp : Sp} {X : XK} {P : List V → Hp → Prop} (h : EvM te σ H P) (k : ∀ p H1 us, H p = none → Ex H H1 → H1 p = some (.lst us) → P us H1 → sp [.ref p] H1 (fun v H2 => tz D (σ.set i (some v)) H2) X) : tSeq (tAsg (tCall sp [] X (tCons te tNil)) (gName i)) tz D σ H := h H (Ex.refl H) _ fun p H1 us n e a b => k p H1 us n e a b
theorem filter_yes (L : List α) : L.filter (fun _ => true) = L := List.filter_eq_self.mpr fun _ _ => rfl
theorem ev_anyM {bs : List Bool} (h : EvR te σ H (fun us _ => us = bs.map V.bl)) : Ev (tCB (rAny K) (tCons te tNil)) σ H (.bl (bs.any id)) := fun H1 e Q q =>
  h H1 e _ fun p H2 us e2 h2 hu => ⟨p, bs, rfl, sq_of (by rw [h2, hu]), q H2 e2⟩
end
/-- for a, b in rows -/
theorem turn_two {K : PySem.W.Frag} {i j : Nat} {v : V} {r : Rw} {σ : L2.St} {H : Hp} {Q : L2.St → Hp → Prop} (h : RowAt H v r) (q : ∀ m, H m = some (.tup (r.2.map V.int)) → Q ((σ.set i (some (.int r.1))).set j (some (.ref m))) H) : gTwo K i j v σ H Q := by
  obtain ⟨t, m, rfl, h1, h2⟩ := h
  exact gTwo_at h1 (q m h2)


theorem eqv_ints : ∀ a b : List Int, PyData.eqvAll (a.map PyData.int) (b.map PyData.int) = decide (a = b)
  | [], [] => by rw [List.map_nil, PyData.eqvAll]; rfl
  | [], y :: ys => by rw [List.map_nil, List.map_cons, PyData.eqvAll]; rfl
  | x :: xs, [] => by rw [List.map_nil, List.map_cons, PyData.eqvAll]; rfl
  | x :: xs, y :: ys => by
    rw [List.map_cons, List.map_cons, PyData.eqvAll, eqv_ints xs ys, PyData.eqv, Bool.eq_iff_iff]
    simp
def dT (l : List Int) : PyData := .tuple (l.map PyData.int)
theorem any_ints (L : List (List Int)) (o : List Int) : ((L.map dT).any fun z => PyData.eqv z (dT o)) = decide (o ∈ L) := by
  induction L with
  | nil => rfl
  | cons l L ih =>
    rw [List.map_cons, List.any_cons, ih]
    have e : PyData.eqv (dT l) (dT o) = decide (l = o) := by
      unfold dT
      rw [PyData.eqv, eqv_ints]
    rw [e, Bool.eq_iff_iff]
    simp only [Bool.or_eq_true, decide_eq_true_eq, List.mem_cons]
    constructor
    · rintro (h | h)
      · exact Or.inl h.symm
      · exact Or.inr h
    · rintro (h | h)
      · exact Or.inl h.symm
      · exact Or.inr h
theorem lay_ints : ∀ l : List Int, PyData.canLayAll0 (l.map PyData.int) = true ∧ PyData.depthAll (l.map PyData.int) = 0
  | [] => ⟨by rw [List.map_nil, PyData.canLayAll0], by rw [List.map_nil, PyData.depthAll]⟩
  | x :: xs => by
    have ih := lay_ints xs
    refine ⟨?_, ?_⟩
    · rw [List.map_cons, PyData.canLayAll0, PyData.canLay0, ih.1]
      rfl
    · rw [List.map_cons, PyData.depthAll, PyData.depth, ih.2]
      rfl
theorem lay_tups : ∀ L : List (List Int), PyData.canLayAll0 (L.map dT) = true ∧ PyData.depthAll (L.map dT) ≤ 1
  | [] => ⟨by rw [List.map_nil, PyData.canLayAll0], by rw [List.map_nil, PyData.depthAll]; decide⟩
  | l :: L => by
    have ih := lay_tups L
    have h := lay_ints l
    refine ⟨?_, ?_⟩
    · rw [List.map_cons, PyData.canLayAll0, ih.1]
      unfold dT
      rw [PyData.canLay0, h.1]
      rfl
    · rw [List.map_cons, PyData.depthAll]
      unfold dT at *
      rw [PyData.depth, h.2]
      have := ih.2
      omega
theorem shaped_tup (l : List Int) : SeqAt.shaped (dT l) = true := by
  have h := lay_ints l
  unfold SeqAt.shaped dT
  rw [PyData.canLay0, PyData.depth, h.1, h.2]
  rfl
theorem shaped_tups (L : List (List Int)) : SeqAt.shaped (.list (L.map dT)) = true := by
  have h := lay_tups L
  unfold SeqAt.shaped
  rw [PyData.canLay0, PyData.depth, h.1, Bool.true_and, decide_eq_true_eq]
  have := h.2
  omega
theorem dp_ints {K : PySem.W.Frag} {H : Hp} : ∀ l : List Int, DpAll K H (l.map V.int) (l.map PyData.int)
  | [] => .nil
  | x :: xs => .cons (.int x) (dp_ints xs)
theorem dp_tup {K : PySem.W.Frag} {H : Hp} {a : Addr} {l : List Int} (h : TpI K H a l) : Dp K H (.ref a) (dT l) := .tup h (dp_ints l)
theorem dp_tups {K : PySem.W.Frag} {H : Hp} : ∀ (ws : List V) (L : List (List Int)), All2 (EarAt H) ws L → DpAll K H ws (L.map dT)
  | [], [], _ => .nil
  | [], l :: L, h => by cases h.1
  | w :: ws, [], h => by cases h.1
  | w :: ws, l :: L, h => by
    obtain ⟨a, rfl, ha⟩ := h.2 0 w l rfl rfl
    exact .cons (dp_tup (st_of ha)) (dp_tups ws L ⟨Nat.succ.inj h.1, fun i v x g1 g2 => h.2 (i + 1) v x g1 g2⟩)

/-! ### rows as data -/
def rD (r : Rw) : PyData := .tuple [.int r.1, dT r.2]
theorem eqv_row (a b : Rw) : PyData.eqv (rD a) (rD b) = decide (a = b) := by
  unfold rD
  rw [PyData.eqv, PyData.eqvAll, PyData.eqvAll, PyData.eqvAll, PyData.eqv, Bool.and_true]
  unfold dT
  rw [PyData.eqv, eqv_ints, Bool.eq_iff_iff, Bool.and_eq_true, decide_eq_true_eq, decide_eq_true_eq, beq_iff_eq]
  exact ⟨fun h => Prod.ext h.1 h.2, fun h => by rw [h]; exact ⟨rfl, rfl⟩⟩
theorem eqv_rows : ∀ a b : List Rw, PyData.eqvAll (a.map rD) (b.map rD) = decide (a = b)
  | [], [] => by rw [List.map_nil, PyData.eqvAll]; rfl
  | [], y :: ys => by rw [List.map_nil, List.map_cons, PyData.eqvAll]; rfl
  | x :: xs, [] => by rw [List.map_nil, List.map_cons, PyData.eqvAll]; rfl
  | x :: xs, y :: ys => by
    rw [List.map_cons, List.map_cons, PyData.eqvAll, eqv_rows xs ys, eqv_row, Bool.eq_iff_iff]
    simp
theorem any_rows (L : List Rw) (o : Rw) : ((L.map rD).any fun z => PyData.eqv z (rD o)) = decide (o ∈ L) := by
  induction L with
  | nil => rfl
  | cons l L ih =>
    rw [List.map_cons, List.any_cons, ih, eqv_row, Bool.eq_iff_iff]
    simp only [Bool.or_eq_true, decide_eq_true_eq, List.mem_cons]
    constructor
    · rintro (h | h)
      · exact Or.inl h.symm
      · exact Or.inr h
    · rintro (h | h)
      · exact Or.inl h.symm
      · exact Or.inr h
theorem rD_lay (r : Rw) : (rD r).canLay0 = true ∧ (rD r).depth = 2 := by
  have h := lay_ints r.2
  unfold rD dT
  refine ⟨?_, ?_⟩
  · rw [PyData.canLay0, PyData.canLayAll0, PyData.canLayAll0, PyData.canLayAll0, PyData.canLay0, PyData.canLay0, h.1]
    rfl
  · rw [PyData.depth, PyData.depthAll, PyData.depthAll, PyData.depthAll, PyData.depth, PyData.depth, h.2]
    rfl
theorem lay_rows : ∀ L : List Rw, PyData.canLayAll0 (L.map rD) = true ∧ PyData.depthAll (L.map rD) ≤ 2
  | [] => ⟨by rw [List.map_nil, PyData.canLayAll0], by rw [List.map_nil, PyData.depthAll]; decide⟩
  | l :: L => by
    have ih := lay_rows L
    have h := rD_lay l
    refine ⟨?_, ?_⟩
    · rw [List.map_cons, PyData.canLayAll0, ih.1, h.1]
      rfl
    · rw [List.map_cons, PyData.depthAll, h.2]
      have := ih.2
      omega
theorem shaped_row (r : Rw) : SeqAt.shaped (rD r) = true := by
  have h := rD_lay r
  unfold SeqAt.shaped
  rw [h.1, h.2]
  rfl
theorem shaped_rows (L : List Rw) : SeqAt.shaped (.list (L.map rD)) = true := by
  have h := lay_rows L
  unfold SeqAt.shaped
  rw [PyData.canLay0, PyData.depth, h.1, Bool.true_and, decide_eq_true_eq]
  have := h.2
  omega
theorem dp_row {K : PySem.W.Frag} {H : Hp} {v : V} {r : Rw} (h : RowAt H v r) : Dp K H v (rD r) := by
  obtain ⟨t, m, rfl, h1, h2⟩ := h
  exact .tup (st_of h1) (.cons (.int r.1) (.cons (dp_tup (st_of h2)) .nil))
theorem dp_all {α : Type} {K : PySem.W.Frag} {H : Hp} {P : Hp → V → α → Prop} {e : α → PyData} (k : ∀ v x, P H v x → Dp K H v (e x)) : ∀ (ws : List V) (L : List α), All2 (P H) ws L → DpAll K H ws (L.map e)
  | [], [], _ => .nil
  | [], l :: L, h => by cases h.1
  | w :: ws, [], h => by cases h.1
  | w :: ws, l :: L, h => .cons (k w l (h.2 0 w l rfl rfl)) (dp_all k ws L ⟨Nat.succ.inj h.1, fun i v x g1 g2 => h.2 (i + 1) v x g1 g2⟩)
theorem dp_rows {K : PySem.W.Frag} {H : Hp} {b : Addr} {ws : List V} {R : List Rw} (hb : H b = some (.lst ws)) (hA : All2 (RowAt H) ws R) : Dp K H (.ref b) (.list (R.map rD)) := .lst (sq_of hb) (dp_all (P := RowAt) (fun _ _ h => dp_row h) ws R hA)
/-- a list of rows is as another of the same rows -/
theorem ne_rows {K : PySem.W.Frag} {H : Hp} {a b : Addr} {ws us : List V} {R S : List Rw} {Q : VK} (ha : H a = some (.lst ws)) (hb : H b = some (.lst us)) (hA : All2 (RowAt H) ws R) (hB : All2 (RowAt H) us S) (q : Q (.bl (!decide (R = S))) H) : rNeD K (.ref a) (.ref b) H Q := by
  refine ⟨_, _, dp_rows ha hA, dp_rows hb hB, shaped_rows R, shaped_rows S, ?_⟩
  rw [PyData.eqv, eqv_rows]
  exact q
theorem eq_rows {K : PySem.W.Frag} {H : Hp} {a b : Addr} {ws us : List V} {R S : List Rw} {Q : VK} (ha : H a = some (.lst ws)) (hb : H b = some (.lst us)) (hA : All2 (RowAt H) ws R) (hB : All2 (RowAt H) us S) (q : Q (.bl (decide (R = S))) H) : rEqD K (.ref a) (.ref b) H Q := by
  refine ⟨_, _, dp_rows ha hA, dp_rows hb hB, shaped_rows R, shaped_rows S, ?_⟩
  rw [PyData.eqv, eqv_rows]
  exact q
/-- min(ns, default=d) of ints -/
theorem min_ints {K : PySem.W.Frag} {H : Hp} {a : Addr} {ns : List Int} {d : V} {Q : VK} (h : H a = some (.lst (ns.map V.int))) (q0 : ns = [] → Q d H) (q : ∀ m, m ∈ ns → (∀ y ∈ ns, m ≤ y) → Q (.int m) H) : rMinDat K [.ref a] [d] H Q := by
  have al : PySem.W.AlikeAll (ns.map PyData.int) := by
    refine ⟨fun x hx y hy => ?_, fun x hx => ?_⟩
    · obtain ⟨i, _, rfl⟩ := List.mem_map.mp hx
      obtain ⟨j, _, rfl⟩ := List.mem_map.mp hy
      simp [PySem.W.alike]
    · obtain ⟨i, _, rfl⟩ := List.mem_map.mp hx
      exact fun z => by cases z
  unfold rMinDat
  refine ⟨a, _, ns.map PyData.int, d, rfl, rfl, sq_of h, dp_ints ns, al, by rw [(lay_ints ns).2]; decide, fun e => q0 (List.map_eq_nil_iff.mp e), fun y ys i x e gx gd => ?_⟩
  cases ns with
  | nil => cases e
  | cons n ns =>
    rw [List.map_cons] at e
    injection e with e1 e2
    subst e1 e2
    rw [PySem.W.minD_ints] at gd
    obtain ⟨m, hm, rfl⟩ : ∃ m, (n :: ns)[i]? = some m ∧ x = .int m := by
      rw [List.getElem?_map] at gx
      obtain ⟨m, a1, a2⟩ := Option.map_eq_some_iff.mp gx
      exact ⟨m, a1, a2.symm⟩
    have em : m = ns.foldl min n := by
      have gd' : ((n :: ns).map PyData.int)[i]? = some (.int (ns.foldl min n)) := gd
      rw [List.getElem?_map, hm] at gd'
      exact PyData.int.inj (Option.some.inj gd')
    have low : ∀ (l : List Int) (n : Int), l.foldl min n ≤ n ∧ ∀ y ∈ l, l.foldl min n ≤ y := by
      intro l
      induction l with
      | nil => exact fun n => ⟨Int.le_refl _, by simp⟩
      | cons z l ih =>
        intro n
        obtain ⟨h1, h2⟩ := ih (min n z)
        rw [List.foldl_cons]
        refine ⟨by omega, fun y hy => ?_⟩
        rcases List.mem_cons.mp hy with e | hy
        · rw [e]
          omega
        · exact h2 y hy
    refine q m (List.mem_of_getElem? hm) fun y hy => ?_
    rw [em]
    rcases List.mem_cons.mp hy with e | hy
    · rw [e]
      exact (low ns n).1
    · exact (low ns n).2 y hy

/-! ### the order of rows and of ways: that of their numbers in a row -/
def rk (r : Rw) : List Int := r.1 :: r.2
abbrev Wy : Type := Int × Int × List Int
def wk (w : Wy) : List Int := w.1 :: w.2.1 :: w.2.2
def wD (w : Wy) : PyData := .tuple [.int w.1, .int w.2.1, dT w.2.2]
theorem rowLt_nil : PySem.W.rowLt [] [] = false := PyProof.Rows.lex_irrefl _
theorem lt_ears (l m : List Int) : PySem.W.rowLt [dT l] [dT m] = decide (l < m) := by
  have al : PySem.W.alike (dT l) (dT m) = true := by
    unfold dT
    rw [PySem.W.alike]
    exact PySem.W.alike_ints l m
  have ev : PyData.eqv (dT l) (dT m) = decide (l = m) := by
    unfold dT
    rw [PyData.eqv, eqv_ints]
  have h : PySem.W.rowLt [dT l] [dT m] = if PyData.eqv (dT l) (dT m) = true then PySem.W.rowLt [] [] else PySem.W.dataLt (dT l) (dT m) := PySem.W.dataLt_cons al [] []
  rw [h, ev, rowLt_nil]
  by_cases c : l = m
  · rw [if_pos (decide_eq_true c), c]
    exact (decide_eq_false (List.lt_irrefl _)).symm
  · rw [if_neg (by rw [decide_eq_true_eq]; exact c)]
    show PySem.W.dataLt (.tuple (l.map PyData.int)) (.tuple (m.map PyData.int)) = _
    rw [PySem.W.dataLt_tuple]
    exact PySem.W.dataLt_ints l m
theorem lt_int_cons (x y : Int) (ds es : List PyData) (l m : List Int) (h : PySem.W.rowLt ds es = decide (l < m)) : PySem.W.rowLt (.int x :: ds) (.int y :: es) = decide (x :: l < y :: m) := by
  have al : PySem.W.alike (.int x) (.int y) = true := by rw [PySem.W.alike]
  have h2 : PySem.W.rowLt (.int x :: ds) (.int y :: es) = if PyData.eqv (.int x) (.int y) = true then PySem.W.rowLt ds es else PySem.W.dataLt (.int x) (.int y) := PySem.W.dataLt_cons al ds es
  rw [h2, h, PySem.W.dataLt_int, PyData.eqv]
  by_cases c : x = y
  · subst c
    rw [if_pos (by simp), Bool.eq_iff_iff, decide_eq_true_eq, decide_eq_true_eq, List.cons_lt_cons_iff]
    constructor
    · exact fun k => Or.inr ⟨rfl, k⟩
    · rintro (k | k)
      · omega
      · exact k.2
  · rw [if_neg (by simpa using c), Bool.eq_iff_iff, decide_eq_true_eq, decide_eq_true_eq, List.cons_lt_cons_iff]
    constructor
    · exact Or.inl
    · rintro (k | k)
      · exact k
      · exact absurd k.1 c
theorem lt_row (a b : Rw) : PySem.W.dataLt (rD a) (rD b) = decide (rk a < rk b) := by
  unfold rD
  rw [PySem.W.dataLt_tuple]
  exact lt_int_cons _ _ _ _ _ _ (lt_ears a.2 b.2)
theorem lt_way (a b : Wy) : PySem.W.dataLt (wD a) (wD b) = decide (wk a < wk b) := by
  unfold wD
  rw [PySem.W.dataLt_tuple]
  exact lt_int_cons _ _ _ _ _ _ (lt_int_cons _ _ _ _ _ _ (lt_ears a.2.2 b.2.2))
theorem alike_row (a b : Rw) : PySem.W.alike (rD a) (rD b) = true := by
  unfold rD dT
  rw [PySem.W.alike, PySem.W.alikeAll, PySem.W.alikeAll, PySem.W.alike, PySem.W.alike, PySem.W.alike_ints, PySem.W.alikeAll]
  rfl
theorem alike_way (a b : Wy) : PySem.W.alike (wD a) (wD b) = true := by
  unfold wD dT
  rw [PySem.W.alike, PySem.W.alikeAll, PySem.W.alikeAll, PySem.W.alikeAll, PySem.W.alike, PySem.W.alike, PySem.W.alike, PySem.W.alike_ints, PySem.W.alikeAll]
  rfl
theorem wD_lay (r : Wy) : (wD r).canLay0 = true ∧ (wD r).depth = 2 := by
  have h := lay_ints r.2.2
  unfold wD dT
  refine ⟨?_, ?_⟩
  · rw [PyData.canLay0, PyData.canLayAll0, PyData.canLayAll0, PyData.canLayAll0, PyData.canLayAll0, PyData.canLay0, PyData.canLay0, PyData.canLay0, h.1]
    rfl
  · rw [PyData.depth, PyData.depthAll, PyData.depthAll, PyData.depthAll, PyData.depthAll, PyData.depth, PyData.depth, PyData.depth, h.2]
    rfl
theorem depth_all {α : Type} {e : α → PyData} {n : Nat} (h : ∀ x, (e x).depth ≤ n) : ∀ L : List α, PyData.depthAll (L.map e) ≤ n
  | [] => by rw [List.map_nil, PyData.depthAll]; exact Nat.zero_le _
  | x :: L => by
    rw [List.map_cons, PyData.depthAll]
    have h1 := h x
    have h2 := depth_all h L
    omega
/-- the least by a key -/
def minB {α : Type} (k : α → List Int) (x : α) (xs : List α) : α := xs.foldl (fun a y => if decide (k y < k a) = true then y else a) x
theorem minB_mem {α : Type} (k : α → List Int) : ∀ (xs : List α) (x : α), minB k x xs ∈ x :: xs
  | [], x => List.mem_singleton.mpr rfl
  | y :: ys, x => by
    show minB k (if decide (k y < k x) = true then y else x) ys ∈ x :: y :: ys
    rcases List.mem_cons.mp (minB_mem k ys (if decide (k y < k x) = true then y else x)) with e | m
    · rw [e]
      split
      · exact List.mem_cons_of_mem _ List.mem_cons_self
      · exact List.mem_cons_self
    · exact List.mem_cons_of_mem _ (List.mem_cons_of_mem _ m)
theorem minB_low {α : Type} (k : α → List Int) : ∀ (xs : List α) (x : α), ∀ z ∈ x :: xs, ¬ k z < k (minB k x xs)
  | [], x, z, hz => by
    rw [List.mem_singleton.mp hz]
    exact List.lt_irrefl _
  | y :: ys, x, z, hz => by
    show ¬ k z < k (minB k (if decide (k y < k x) = true then y else x) ys)
    have ih := minB_low k ys (if decide (k y < k x) = true then y else x)
    have h0 := ih _ List.mem_cons_self
    rcases List.mem_cons.mp hz with e | hz
    · subst e
      split at h0
      · rename_i c
        rw [if_pos c]
        intro hlt
        exact h0 (List.lt_trans (of_decide_eq_true c) hlt)
      · rename_i c
        rw [if_neg c]
        exact h0
    · rcases List.mem_cons.mp hz with e | hz
      · subst e
        split at h0
        · rename_i c
          rw [if_pos c]
          exact h0
        · rename_i c
          rw [if_neg c]
          intro hlt
          have c' : ¬ k z < k x := fun hh => c (decide_eq_true hh)
          have hle : k (minB k x ys) ≤ k x := List.not_lt.mp h0
          have hle2 : k x ≤ k z := List.not_lt.mp c'
          exact List.not_lt.mpr (List.le_trans hle hle2) hlt
      · exact ih z (List.mem_cons_of_mem _ hz)
theorem minD_map {α : Type} {k : α → List Int} {e : α → PyData} (h : ∀ a b, PySem.W.dataLt (e a) (e b) = decide (k a < k b)) : ∀ (xs : List α) (x : α), PySem.W.minD (e x) (xs.map e) = e (minB k x xs)
  | [], _ => rfl
  | y :: ys, x => by
    show PySem.W.minD (if PySem.W.dataLt (e y) (e x) = true then e y else e x) (ys.map e) = e (minB k (if decide (k y < k x) = true then y else x) ys)
    rw [h y x, ← minD_map h ys]
    split <;> rfl
/-- ways (cuts, owner, ear) -/
def WayAt (H : Hp) (v : V) (w : Wy) : Prop := ∃ t m : Addr, v = .ref t ∧ H t = some (.tup [.int w.1, .int w.2.1, .ref m]) ∧ H m = some (.tup (w.2.2.map V.int))
theorem stay_way : Stay WayAt := by
  refine ⟨fun e h => ?_, fun hD h => ?_⟩
  · obtain ⟨t, m, e1, h1, h2⟩ := h
    exact ⟨t, m, e1, e _ _ h1, e _ _ h2⟩
  · obtain ⟨t, m, e1, h1, h2⟩ := h
    refine ⟨t, m, e1, ?_, ?_⟩
    · rw [upd_ne (fun z => by rw [z, hD] at h1; cases h1)]
      exact h1
    · rw [upd_ne (fun z => by rw [z, hD] at h2; cases h2)]
      exact h2
theorem dp_way {K : PySem.W.Frag} {H : Hp} {v : V} {w : Wy} (h : WayAt H v w) : Dp K H v (wD w) := by
  obtain ⟨t, m, rfl, h1, h2⟩ := h
  exact .tup (st_of h1) (.cons (.int w.1) (.cons (.int w.2.1) (.cons (dp_tup (st_of h2)) .nil)))
theorem min_ways {K : PySem.W.Frag} {H : Hp} {a : Addr} {ws : List V} {W : List Wy} {d : V} {Q : VK} (h : H a = some (.lst ws)) (hA : All2 (WayAt H) ws W) (q0 : W = [] → Q d H) (q : ∀ v w, w ∈ W → (∀ z ∈ W, ¬ wk z < wk w) → WayAt H v w → Q v H) : rMinDat K [.ref a] [d] H Q := by
  have al : PySem.W.AlikeAll (W.map wD) := by
    refine ⟨fun x hx y hy => ?_, fun x hx => ?_⟩
    · obtain ⟨i, _, rfl⟩ := List.mem_map.mp hx
      obtain ⟨j, _, rfl⟩ := List.mem_map.mp hy
      exact alike_way i j
    · obtain ⟨i, _, rfl⟩ := List.mem_map.mp hx
      exact fun z => by cases z
  unfold rMinDat
  refine ⟨a, _, W.map wD, d, rfl, rfl, sq_of h, dp_all (P := WayAt) (fun _ _ h => dp_way h) ws W hA, al, Nat.le_trans (depth_all (n := 2) (fun x => by rw [(wD_lay x).2]; decide) W) (by decide), fun e => q0 (List.map_eq_nil_iff.mp e), fun y ys i x e gx gd => ?_⟩
  cases W with
  | nil => cases e
  | cons w W =>
    rw [List.map_cons] at e
    injection e with e1 e2
    subst e1 e2
    rw [minD_map lt_way] at gd
    obtain ⟨w', gw, rw'⟩ := hA.get gx
    have ew : w' = minB wk w W := by
      have gd' : ((w :: W).map wD)[i]? = some (wD (minB wk w W)) := gd
      rw [List.getElem?_map, gw] at gd'
      have e3 : wD w' = wD (minB wk w W) := Option.some.inj gd'
      have inj : ∀ a b : Wy, wD a = wD b → a = b := by
        intro a b hab
        unfold wD dT at hab
        injection hab with hab
        injection hab with h1 hab
        injection hab with h2 hab
        injection hab with h3 _
        injection h1 with h1
        injection h2 with h2
        injection h3 with h3
        have h4 := (List.map_inj_right (fun x y (h : PyData.int x = PyData.int y) => PyData.int.inj h)).mp h3
        exact Prod.ext h1 (Prod.ext h2 h4)
      exact inj _ _ e3
    subst ew
    exact q x _ (minB_mem wk W w) (minB_low wk W w) rw'
theorem All2.map {α β : Type} {P : V → β → Prop} (f : α → β) {ws : List V} {L : List α} (h : All2 (fun v x => P v (f x)) ws L) : All2 P ws (L.map f) := by
  refine ⟨by rw [List.length_map, h.1], fun i v x a b => ?_⟩
  rw [List.getElem?_map] at b
  obtain ⟨y, hy, e⟩ := Option.map_eq_some_iff.mp b
  rw [← e]
  exact h.2 i v y a hy
/-! ### tears, further -/
theorem tear_mono : ∀ xs ys zs : List Int, ys.length = zs.length → lowB ys zs = true → tearI xs ys ≤ tearI xs zs
  | [], ys, zs, _, _ => by rw [tearI_nil, tearI_nil]; exact Int.le_refl _
  | x :: xs, [], zs, hl, _ => by
    cases zs with
    | nil => exact Int.le_refl _
    | cons _ _ => cases hl
  | x :: xs, y :: ys, [], hl, _ => by cases hl
  | x :: xs, y :: ys, z :: zs, hl, h => by
    rw [lowB_cons, Bool.and_eq_true, decide_eq_true_eq] at h
    have ih := tear_mono xs ys zs (Nat.succ.inj hl) h.2
    rw [tearI_cons, tearI_cons]
    omega
theorem low_set : ∀ (xs zs : List Int) (j : Nat) (z : Int), zs[j]? = some z → lowB xs zs = true → lowB xs (zs.set j (z + 1)) = true
  | [], _, _, _, _, _ => rfl
  | x :: xs, [], _, _, h, _ => by simp at h
  | x :: xs, y :: zs, 0, z, h, hl => by
    have e : y = z := by simpa using h
    subst e
    rw [lowB_cons, Bool.and_eq_true, decide_eq_true_eq] at hl
    rw [List.set_cons_zero, lowB_cons, Bool.and_eq_true, decide_eq_true_eq]
    exact ⟨by omega, hl.2⟩
  | x :: xs, y :: zs, j + 1, z, h, hl => by
    rw [lowB_cons, Bool.and_eq_true] at hl
    rw [List.set_cons_succ, lowB_cons, Bool.and_eq_true]
    exact ⟨hl.1, low_set xs zs j z (by simpa using h) hl.2⟩
theorem tear_set : ∀ (xs zs : List Int) (j : Nat) (z : Int), zs[j]? = some z → tearI xs (zs.set j (z + 1)) ≤ tearI xs zs + 1
  | [], _, _, _, _ => by rw [tearI_nil, tearI_nil]; omega
  | x :: xs, [], _, _, h => by simp at h
  | x :: xs, y :: zs, 0, z, h => by
    have e : y = z := by simpa using h
    subst e
    rw [List.set_cons_zero, tearI_cons, tearI_cons]
    omega
  | x :: xs, y :: zs, j + 1, z, h => by
    rw [List.set_cons_succ, tearI_cons, tearI_cons]
    have := tear_set xs zs j z (by simpa using h)
    omega
theorem low_refl : ∀ xs : List Int, lowB xs xs = true
  | [] => rfl
  | x :: xs => by
    rw [lowB_cons, low_refl xs, Bool.and_true, decide_eq_true_eq]
    exact Int.le_refl _
theorem tear_self (xs : List Int) : tearI xs xs = 0 := of_decide_eq_true ((tear_zero xs xs).trans (low_refl xs))

/-! ### the text -/
def topS (i : Nat) : Stmt := PySem.Challenge.pw_earmarks_k23_whole_thief_of_rows.main.body.getD i (.Pass ⟨0, 0, 0, 0⟩)
abbrev s_space : Stmt := topS 6
abbrev s_tears : Stmt := topS 8
abbrev s_far : Stmt := topS 9
abbrev s_fitting : Stmt := topS 10
abbrev s_torn_by : Stmt := topS 16
abbrev s_lacks : Stmt := topS 2
abbrev s_joint : Stmt := topS 1
abbrev s_passing : Stmt := topS 4
abbrev s_cell : Stmt := topS 7
abbrev s_row : Stmt := topS 11
abbrev s_near : Stmt := topS 12
abbrev s_ear_by : Stmt := topS 13
abbrev s_table : Stmt := topS 14
abbrev s_ear : Stmt := topS 15
abbrev s_whole : Stmt := topS 17
abbrev s_law : Stmt := topS 18
theorem sc_space : FnScope ["_law_cell_here"] ["_law_cell_here"] (defScope s_space) := ⟨rfl, rfl, rfl, by decide +kernel, rfl, by decide +kernel, by decide +kernel⟩
theorem sc_tears : FnScope ["_law_one", "_law_other", "_law_a", "_law_b"] ["_law_one", "_law_other"] (defScope s_tears) := ⟨rfl, rfl, rfl, by decide +kernel, rfl, by decide +kernel, by decide +kernel⟩
theorem sc_far : FnScope ["_law_one", "_law_other"] ["_law_one", "_law_other"] (defScope s_far) := ⟨rfl, rfl, rfl, by decide +kernel, rfl, by decide +kernel, by decide +kernel⟩
theorem sc_fitting : FnScope ["_law_rows", "_law_space_here", "_law_found", "_law_row_here", "_law_good", "_law_other"] ["_law_rows", "_law_space_here"] (defScope s_fitting) := ⟨rfl, rfl, rfl, by decide +kernel, rfl, by decide +kernel, by decide +kernel⟩
theorem sc_torn_by : FnScope ["_law_ear_here", "_law_figures", "_law_many", "_law_found", "_law_figure"] ["_law_ear_here", "_law_figures", "_law_many"] (defScope s_torn_by) := ⟨rfl, rfl, rfl, by decide +kernel, rfl, by decide +kernel, by decide +kernel⟩
theorem sc_lacks : FnScope ["one", "other", "here", "there"] ["one", "other"] (defScope s_lacks) := ⟨rfl, rfl, rfl, by decide +kernel, rfl, by decide +kernel, by decide +kernel⟩
theorem sc_joint : FnScope ["one", "other", "here", "there"] ["one", "other"] (defScope s_joint) := ⟨rfl, rfl, rfl, by decide +kernel, rfl, by decide +kernel, by decide +kernel⟩
theorem sc_passing : FnScope ["owner", "ear", "rows", "room", "ways", "holder", "mark"] ["owner", "ear", "rows", "room"] (defScope s_passing) := ⟨rfl, rfl, rfl, by decide +kernel, rfl, by decide +kernel, by decide +kernel⟩
theorem sc_cell : FnScope ["_law_script", "_law_k"] ["_law_script", "_law_k"] (defScope s_cell) := ⟨rfl, rfl, rfl, by decide +kernel, rfl, by decide +kernel, by decide +kernel⟩
theorem sc_row : FnScope ["_law_cell_here", "_law_many", "_law_base", "_law_found", "_law_k", "_law_turn"] ["_law_cell_here", "_law_many", "_law_base"] (defScope s_row) := ⟨rfl, rfl, rfl, by decide +kernel, rfl, by decide +kernel, by decide +kernel⟩
theorem sc_near : FnScope ["_law_ear_here", "_law_figures", "_law_found", "_law_depth", "_law_figure", "_law_more"] ["_law_ear_here", "_law_figures"] (defScope s_near) := ⟨rfl, rfl, rfl, by decide +kernel, rfl, by decide +kernel, by decide +kernel⟩
theorem sc_ear_by : FnScope ["_law_figures", "_law_mode", "_law_figure"] ["_law_figures", "_law_mode"] (defScope s_ear_by) := ⟨rfl, rfl, rfl, by decide +kernel, rfl, by decide +kernel, by decide +kernel⟩
theorem sc_table : FnScope ["_law_script", "_law_start", "_law_base", "_law_cells", "_law_rows", "_law_cell_here", "_law_figures", "_law_owner", "_law_mark", "_law_k"] ["_law_script", "_law_start", "_law_base"] (defScope s_table) := ⟨rfl, rfl, rfl, by decide +kernel, rfl, by decide +kernel, by decide +kernel⟩
theorem sc_ear : FnScope ["_law_cell_here", "_law_figures"] ["_law_cell_here"] (defScope s_ear) := ⟨rfl, rfl, rfl, by decide +kernel, rfl, by decide +kernel, by decide +kernel⟩
theorem sc_whole : FnScope ["_law_found"] ["_law_found"] (defScope s_whole) := ⟨rfl, rfl, rfl, by decide +kernel, rfl, by decide +kernel, by decide +kernel⟩
theorem sc_law : FnScope ["_law_script", "_law_space_here", "_law_rows", "_law_owner", "_law_mark", "_law_ear_here", "_law_found"] ["_law_script"] (defScope s_law) := ⟨rfl, rfl, rfl, by decide +kernel, rfl, by decide +kernel, by decide +kernel⟩
structure Txt (K : PySem.W.Frag) (mg : Str → Option Value) where
  f_space : Addr
  fd_space : FuncData
  F_space : Fun K "_law_space" "_law_space" s_space f_space fd_space
  b_space : Binds K fd_space ["_law_cell_here"] []
  g_space : mg "_law_space" = some (.ref f_space)
  f_tears : Addr
  fd_tears : FuncData
  F_tears : Fun K "_law_tears" "_law_tears" s_tears f_tears fd_tears
  b_tears : Binds K fd_tears ["_law_one", "_law_other"] []
  g_tears : mg "_law_tears" = some (.ref f_tears)
  f_far : Addr
  fd_far : FuncData
  F_far : Fun K "_law_far" "_law_far" s_far f_far fd_far
  b_far : Binds K fd_far ["_law_one", "_law_other"] []
  g_far : mg "_law_far" = some (.ref f_far)
  f_fitting : Addr
  fd_fitting : FuncData
  F_fitting : Fun K "_law_fitting" "_law_fitting" s_fitting f_fitting fd_fitting
  b_fitting : Binds K fd_fitting ["_law_rows", "_law_space_here"] []
  g_fitting : mg "_law_fitting" = some (.ref f_fitting)
  f_torn_by : Addr
  fd_torn_by : FuncData
  F_torn_by : Fun K "_law_torn_by" "_law_torn_by" s_torn_by f_torn_by fd_torn_by
  b_torn_by : Binds K fd_torn_by ["_law_ear_here", "_law_figures", "_law_many"] []
  g_torn_by : mg "_law_torn_by" = some (.ref f_torn_by)
  f_lacks : Addr
  fd_lacks : FuncData
  F_lacks : Fun K "lacks" "lacks" s_lacks f_lacks fd_lacks
  b_lacks : Binds K fd_lacks ["one", "other"] []
  g_lacks : mg "lacks" = some (.ref f_lacks)
  f_joint : Addr
  fd_joint : FuncData
  F_joint : Fun K "joint" "joint" s_joint f_joint fd_joint
  b_joint : Binds K fd_joint ["one", "other"] []
  g_joint : mg "joint" = some (.ref f_joint)
  f_passing : Addr
  fd_passing : FuncData
  F_passing : Fun K "passing" "passing" s_passing f_passing fd_passing
  b_passing : Binds K fd_passing ["owner", "ear", "rows", "room"] []
  g_passing : mg "passing" = some (.ref f_passing)
  f_cell : Addr
  fd_cell : FuncData
  F_cell : Fun K "_law_cell" "_law_cell" s_cell f_cell fd_cell
  b_cell : Binds K fd_cell ["_law_script", "_law_k"] []
  g_cell : mg "_law_cell" = some (.ref f_cell)
  f_row : Addr
  fd_row : FuncData
  F_row : Fun K "_law_row" "_law_row" s_row f_row fd_row
  b_row : Binds K fd_row ["_law_cell_here", "_law_many", "_law_base"] []
  g_row : mg "_law_row" = some (.ref f_row)
  f_near : Addr
  fd_near : FuncData
  F_near : Fun K "_law_near" "_law_near" s_near f_near fd_near
  b_near : Binds K fd_near ["_law_ear_here", "_law_figures"] []
  g_near : mg "_law_near" = some (.ref f_near)
  f_ear_by : Addr
  fd_ear_by : FuncData
  F_ear_by : Fun K "_law_ear_by" "_law_ear_by" s_ear_by f_ear_by fd_ear_by
  b_ear_by : Binds K fd_ear_by ["_law_figures", "_law_mode"] []
  g_ear_by : mg "_law_ear_by" = some (.ref f_ear_by)
  f_table : Addr
  fd_table : FuncData
  F_table : Fun K "_law_table" "_law_table" s_table f_table fd_table
  b_table : Binds K fd_table ["_law_script", "_law_start", "_law_base"] []
  g_table : mg "_law_table" = some (.ref f_table)
  f_ear : Addr
  fd_ear : FuncData
  F_ear : Fun K "_law_ear" "_law_ear" s_ear f_ear fd_ear
  b_ear : Binds K fd_ear ["_law_cell_here"] []
  g_ear : mg "_law_ear" = some (.ref f_ear)
  f_whole : Addr
  fd_whole : FuncData
  F_whole : Fun K "_law_whole" "_law_whole" s_whole f_whole fd_whole
  b_whole : Binds K fd_whole ["_law_found"] []
  g_whole : mg "_law_whole" = some (.ref f_whole)
  f_law : Addr
  fd_law : FuncData
  F_law : Fun K "law" "law" s_law f_law fd_law
  b_law : Binds K fd_law ["_law_script"] []
  g_law : mg "law" = some (.ref f_law)
  m_sum : mg "sum" = none
  m_zip : mg "zip" = none
  m_max : mg "max" = none
  m_list : mg "list" = none
  m_tuple : mg "tuple" = none
  m_min : mg "min" = none
  m_len : mg "len" = none
  m_abs : mg "abs" = none
  m_range : mg "range" = none
  m_isinstance : mg "isinstance" = none
  m_bool : mg "bool" = none
  m_int : mg "int" = none

section
variable {P : Program} {w : World} {K : PySem.W.Frag} {mg : Str → Option Value} {base : Heap}
/-! _law_space -/

def sp_space (K : PySem.W.Frag) : Sp := fun vs H Q _ => ∃ c : Int, vs = [.int c] ∧ ∀ rm : Int, 0 ≤ rm → rm ≤ 60 → Q (.int rm) H
theorem ok_space (T : Txt K mg) : FnOk P w K mg base CX0 1 T.f_space T.fd_space ["_law_cell_here"] (sp_space K) := by
  refine T.F_space.ok sc_space (fun vs H Q E h => ?_) (fun cdv A outer s H vs Q E hr h => ?_)

  · obtain ⟨c, rfl, _⟩ := h
    rfl
  · obtain ⟨c, rfl, q⟩ := h
    refine ⟨_, (pss_cons (ps_if (pt_cmpR op_eq (pe_op op_mod (pv 0) pe_int) pe_int (nomark _)) (pss_one (ps_ret (pe_op op_mod (pe_op op_fdiv (pv 0) pe_int) pe_int))) pss_nil)
      (pss_one (ps_ret (pe_op op_mod (pe_op op_fdiv (pv 0) pe_int) pe_int)))), ?_⟩
    refine ⟨_, rfl, _, _, rfl, rfl, (by show (0 : Int) < 8; decide), rfl, _, rfl, ite2 (fun _ => ?_) (fun _ => ?_)⟩
    · exact ⟨_, rfl, _, _, rfl, rfl, ⟨by decide, by decide⟩, _, _, rfl, rfl, (by show (0 : Int) < 61; decide), q _ (by omega) (by omega)⟩
    · exact ⟨_, rfl, _, _, rfl, rfl, ⟨by decide, by decide⟩, _, _, rfl, rfl, (by show (0 : Int) < 10; decide), q _ (by omega) (by omega)⟩
/-! _law_tears -/

def sp_tears (K : PySem.W.Frag) : Sp := fun vs H Q _ => ∃ (a b : Addr) (xs ys : List Int), vs = [.ref a, .ref b] ∧ TpI K H a xs ∧ TpI K H b ys ∧ xs.length = ys.length ∧ xs.length ≤ 1000 ∧ ∀ H', Ex H H' → Q (.int (tearI xs ys)) H'
theorem ok_tears (T : Txt K mg) : FnOk P w K mg base CX0 1 T.f_tears T.fd_tears ["_law_one", "_law_other"] (sp_tears K) := by
  refine T.F_tears.ok sc_tears (fun vs H Q E h => ?_) (fun cdv A outer s H vs Q E hr h => ?_)

  · obtain ⟨a, b, xs, ys, rfl, _⟩ := h
    rfl
  · obtain ⟨a, b, xs, ys, rfl, hx, hy, hl, hz, q⟩ := h
    refine ⟨_, (pss_one (ps_ret (pe_callB (cr_sum rfl) (by rfl) T.m_sum (by decide +kernel) (pa_cons (pe_lc (own := [("_law_a", 2), ("_law_b", 3)]) (g := gTwo K 2 3) (tt := tYes) (by rfl) sc_tears.nd (pi_zipA (by rfl) T.m_zip (pa_cons (pv 0) (pa_cons (pv 1) pa_nil))) (blkOk_by (own := [("_law_a", 2), ("_law_b", 3)]) (N := ["_law_one", "_law_other", "_law_a", "_law_b"]) (sc := defScope s_tears) (by decide +kernel)) (fun _ _ _ _ _ => pg_tup rfl (pgs_cons (pg_name (i := 2) sc_tears.nd rfl (Or.inl rfl)) (pgs_cons (pg_name (i := 3) sc_tears.nd rfl (Or.inl rfl)) pgs_nil))) (fun _ _ _ _ _ => pts_nil) (fun _ _ _ _ _ => (pe_callB (call_max2 rfl) (by rfl) T.m_max (by decide +kernel) (pa_cons pe_int (pa_cons (pe_op op_sub (pv 3) (pv 2)) pa_nil))))) pa_nil)))), ?_⟩
    refine s_ret (ev_sum (ns := (xs.zip ys).map fun p : Int × Int => max 0 (p.2 - p.1)) ?_) q
    rw [List.map_map]
    exact ez_ints (K := K) (fun x y => .int (max 0 (y - x))) (ea_cons (ev_var rfl) (ea_cons (ev_var rfl) ea_nil)) hx hy hl hz (fun _ _ => rfl) (fun x y H' _ _ => ev_max ev_c (ev_op (ev_var rfl) (ev_var rfl) rv_I0))
/-! _law_far -/

def sp_far (K : PySem.W.Frag) : Sp := fun vs H Q _ => ∃ (a b : Addr) (xs ys : List Int), vs = [.ref a, .ref b] ∧ TpI K H a xs ∧ TpI K H b ys ∧ xs.length = ys.length ∧ xs.length ≤ 1000 ∧ ∀ H', Ex H H' → Q (.int (max (tearI xs ys) (tearI ys xs))) H'
theorem ok_far (T : Txt K mg) : FnOk P w K mg base CX0 2 T.f_far T.fd_far ["_law_one", "_law_other"] (sp_far K) := by
  refine T.F_far.ok sc_far (fun vs H Q E h => ?_) (fun cdv A outer s H vs Q E hr h => ?_)

  · obtain ⟨a, b, xs, ys, rfl, _⟩ := h
    rfl
  · obtain ⟨a, b, xs, ys, rfl, hx, hy, hl, hz, q⟩ := h
    refine ⟨_, (pss_one (ps_ret (pe_callB (call_max2 rfl) (by rfl) T.m_max (by decide +kernel) (pa_cons (pe_call (ok_tears T) (hr.mono (by decide)) (by rfl) T.g_tears T.F_tears.kp T.b_tears .nil pass0 (pa_cons (pv 0) (pa_cons (pv 1) pa_nil))) (pa_cons (pe_call (ok_tears T) (hr.mono (by decide)) (by rfl) T.g_tears T.F_tears.kp T.b_tears .nil pass0 (pa_cons (pv 1) (pa_cons (pv 0) pa_nil))) pa_nil))))), ?_⟩
    refine ⟨_, rfl, _, rfl, a, b, xs, ys, rfl, hx, hy, hl, hz, fun H1 e1 => ?_⟩
    refine ⟨_, rfl, _, rfl, b, a, ys, xs, rfl, ex_t e1 hy, ex_t e1 hx, hl.symm, by omega, fun H2 e2 => ⟨_, _, rfl, ?_⟩⟩
    rw [max2]
    exact q H2 (e1.trans e2)
/-! _law_fitting -/

def apartB (rm : Int) (r s : Rw) : Bool := !(!decide (r.1 = s.1) && decide (max (tearI r.2 s.2) (tearI s.2 r.2) ≤ rm))
def FitsL (S : List Rw) (rm : Int) : Prop := ∀ r ∈ S, ∀ s ∈ S, r.1 ≠ s.1 → rm < max (tearI r.2 s.2) (tearI s.2 r.2)
theorem apart_iff {rm : Int} {r s : Rw} : apartB rm r s = true ↔ (r.1 ≠ s.1 → rm < max (tearI r.2 s.2) (tearI s.2 r.2)) := by
  unfold apartB
  by_cases h1 : r.1 = s.1
  · simp [h1]
  · by_cases h2 : max (tearI r.2 s.2) (tearI s.2 r.2) ≤ rm
    · simp only [h1, h2]
      simp
      omega
    · simp only [h1, h2]
      simp
      omega
def sp_fitting (K : PySem.W.Frag) : Sp := fun vs H Q _ => ∃ (b : Addr) (ws : List V) (R : List Rw) (rm : Int), vs = [.ref b, .int rm] ∧ H b = some (.lst ws) ∧ All2 (RowAt H) ws R ∧ Tab R ∧
  ∀ (p : Addr) (H' : Hp) (us : List V) (S : List Rw), H p = none → Ex H H' → H' p = some (.lst us) → All2 (RowAt H') us S → Tab S → FitsL S rm → Q (.ref p) H'
theorem ok_fitting (T : Txt K mg) : FnOk P w K mg base CX0 3 T.f_fitting T.fd_fitting ["_law_rows", "_law_space_here"] (sp_fitting K) := by
  refine T.F_fitting.ok sc_fitting (fun vs H Q E h => ?_) (fun cdv A outer s H vs Q E hr h => ?_)

  · obtain ⟨b, ws, R, rm, rfl, _⟩ := h
    rfl
  · obtain ⟨b, ws, R, rm, rfl, hb, hA, tb, q⟩ := h
    refine ⟨_, (pss_cons (ps_set (i := 2) sc_fitting.nd rfl (Or.inl rfl) (pe_lst pa_nil))
      (pss_cons (ps_for PassesOwn.never rfl (pi_list (pv 0)) (pg_name (i := 3) sc_fitting.nd rfl (Or.inl rfl)) (pss_cons (ps_set (i := 4) sc_fitting.nd rfl (Or.inl rfl) pe_bl)
      (pss_cut (ps_for PassesOwn.never rfl (pi_list (pv 2)) (pg_name (i := 5) sc_fitting.nd rfl (Or.inl rfl)) (pss_one (ps_if (PW.pt (pw_and (pt_cmpR op_ne (pe_ix ix_tup (pv 5) pe_int (fun _ _ => rfl)) (pe_ix ix_tup (pv 3) pe_int (fun _ _ => rfl)) (nomark _)) (pw_and1 (pt_cmpR op_le (pe_call (ok_far T) (hr.mono (by decide)) (by rfl) T.g_far T.F_far.kp T.b_far .nil pass0 (pa_cons (pe_ix ix_tup (pv 5) pe_int (fun _ _ => rfl)) (pa_cons (pe_ix ix_tup (pv 3) pe_int (fun _ _ => rfl)) pa_nil))) (pv 1) (nomark _))))) (pss_one (ps_set (i := 4) sc_fitting.nd rfl (Or.inl rfl) pe_bl)) pss_nil)))
      (pss_one (ps_if (pt_val (pv 4)) (pss_one (ps_expr (pe_bm PySem.F.plainAttrs_list PySem.F.slot_list_append PySem.F.type_list_append mt_append (pv 2) (pa_cons (pv 3) pa_nil)))) pss_nil)))))
      (pss_one (ps_ret (pv 2))))), ?_⟩
    refine ⟨Nat.zero_le _, fun p np => ?_⟩
    have e1 := Ex.new (o := .lst []) np
    have pb : b ≠ p := fun z => by
      rw [z] at hb
      rw [hb] at np
      cases np
    refine ⟨_, rfl, b, rfl, ⟨_, sq_of (e1 _ _ hb)⟩, for_it (walk_list (K := K) (a := b) (xs := ws)) (fun i σ' H' => ∃ (x3 x4 x5 : Option V) (us : List V) (S : List Rw), σ' = [some (.ref b), some (.int rm), some (.ref p), x3, x4, x5] ∧ Ex H H' ∧ H' p = some (.lst us) ∧ All2 (RowAt H') us S ∧ S.length ≤ i ∧ (∀ r ∈ S, r ∈ R) ∧ FitsL S rm) ?_ ?_ ?_ ?_⟩
    · exact ⟨_, _, _, [], [], rfl, e1, upd_same, All2.nil, Nat.zero_le _, by simp, by intro r hr; simp at hr⟩
    · rintro i σ' H' _ ⟨x3, x4, x5, us, S, rfl, e2, _⟩
      exact sq_of (e2 _ _ hb)
    · rintro i v σ' H' H'' hi ⟨x3, x4, x5, us, S, rfl, e2, hu, hU, lS, sR, fS⟩ ⟨rfl, gv⟩
      obtain ⟨r, gr, rr⟩ := hA.get gv
      have mr := List.mem_of_getElem? gr
      obtain ⟨t, m, rfl, h1, h2⟩ := RowAt.mono e2 rr
      have Er := (tb.ok r mr).2
      refine ⟨fun σ' Hx => ∃ x5 : Option V, σ' = [some (.ref b), some (.int rm), some (.ref p), some (.ref t), some (.bl (S.all fun s => apartB rm s r)), x5] ∧ Ex H'' Hx, ?_, ?_⟩
      · refine ⟨_, rfl, p, rfl, ⟨_, sq_of hu⟩, for_it (walk_list (K := K) (a := p) (xs := us)) (fun j σ' Hx => ∃ x5 : Option V, σ' = [some (.ref b), some (.int rm), some (.ref p), some (.ref t), some (.bl ((S.take j).all fun s => apartB rm s r)), x5] ∧ Ex H'' Hx) ⟨_, rfl, Ex.refl _⟩ ?_ ?_ ?_⟩
        · rintro j σ' Hx _ ⟨x5, rfl, e3⟩
          exact sq_of (e3 _ _ hu)
        · rintro j w σ' Hx Hy hj ⟨x5, rfl, e3⟩ ⟨rfl, gw⟩
          obtain ⟨s, gs, rs⟩ := hU.get gw
          have ms := List.mem_of_getElem? gs
          obtain ⟨t2, m2, rfl, k1, k2⟩ := RowAt.mono e3 rs
          have Es := (tb.ok s (sR s ms)).2
          have step : (S.take (j + 1)).all (fun s => apartB rm s r) = ((S.take j).all (fun s => apartB rm s r) && apartB rm s r) := by
            rw [List.take_add_one, gs, List.all_append]
            simp
          have fin : ∀ (bv : Bool) (Hz : Hp), bv = (S.take (j + 1)).all (fun s => apartB rm s r) → Ex Hy Hz → ∃ x5 : Option V, [some (V.ref b), some (.int rm), some (.ref p), some (.ref t), some (.bl bv), some (.ref t2)] = [some (.ref b), some (.int rm), some (.ref p), some (.ref t), some (.bl ((S.take (j + 1)).all fun s => apartB rm s r)), x5] ∧ Ex H'' Hz := fun bv Hz eb ez => ⟨some (.ref t2), by rw [eb], e3.trans ez⟩
          refine ⟨_, rfl, t2, _, _, _, rfl, rfl, st_of k1, at_of (j := 0) rfl rfl, _, rfl, t, _, _, _, rfl, rfl, st_of (e3 _ _ h1), at_of (j := 0) rfl rfl, rfl, _, rfl, ?_⟩
          by_cases c : s.1 = r.1
          · rw [decide_eq_true (congrArg V.int c)]
            refine iteF (iteF (fin _ _ ?_ (Ex.refl _)))
            have ca : apartB rm s r = true := apart_iff.mpr fun z => absurd c z
            rw [step, ca, Bool.and_true]
          · rw [decide_eq_false (fun z => c (V.int.inj z))]
            refine iteT ⟨_, rfl, t2, _, _, _, rfl, rfl, st_of k1, at_of (j := 1) rfl rfl, _, rfl, t, _, _, _, rfl, rfl, st_of (e3 _ _ h1), at_of (j := 1) rfl rfl, m2, m, s.2, r.2, rfl, st_of k2, st_of (e3 _ _ h2), by rw [Es.1, Er.1], by rw [Es.1]; decide, fun Hz ez => ⟨_, rfl, _, _, rfl, rfl, _, rfl, ?_⟩⟩
            by_cases c2 : max (tearI s.2 r.2) (tearI r.2 s.2) ≤ rm
            · rw [decide_eq_true c2]
              refine iteT (fin false _ ?_ ez)
              have ca : apartB rm s r = false := by
                rw [Bool.eq_false_iff]
                intro z
                have := apart_iff.mp z c
                omega
              rw [step, ca, Bool.and_false]
            · rw [decide_eq_false c2]
              refine iteF (fin _ _ ?_ ez)
              have ca : apartB rm s r = true := apart_iff.mpr fun _ => by omega
              rw [step, ca, Bool.and_true]
        · rintro σ' Hx ⟨x5, rfl, e3⟩
          rw [hU.1, List.take_of_length_le (Nat.le_refl _)]
          exact ⟨_, rfl, e3⟩
      rintro σ' H3 ⟨x5, rfl, e3⟩
      have e23 := e2.trans e3
      have hu3 := e3 _ _ hu
      have hU3 := All2.mono stay_row e3 hU
      have r3 := RowAt.mono e23 rr
      refine ⟨_, rfl, _, rfl, ?_⟩
      cases g : S.all (fun s => apartB rm s r) with
      | false => exact iteF ⟨_, _, _, us, S, rfl, e23, hu3, hU3, by omega, sR, fS⟩
      | true =>
        rw [List.all_eq_true] at g
        have lw : us.length < 1000 := by
          rw [hU.1]
          have := tb.len
          have := hA.1
          omega
        refine iteT ⟨_, rfl, .inl ⟨rfl, _, SqL.of hu3⟩, _, rfl, p, _, _, rfl, rfl, hu3, sz_lt (by omega), ?_⟩
        refine ⟨_, _, _, us ++ [.ref t], S ++ [r], rfl, Ex.mut e23 np, upd_same, (All2.upd stay_row hu3 hU3).snoc (stay_row.upd hu3 r3), ?_, fun s hs => ?_, ?_⟩
        · rw [List.length_append]
          show S.length + 1 ≤ i + 1
          omega
        · rcases List.mem_append.mp hs with mm | mm
          · exact sR s mm
          · rw [List.mem_singleton.mp mm]
            exact mr
        · intro x hx y hy hxy
          rcases List.mem_append.mp hx with mx | mx
          · rcases List.mem_append.mp hy with my | my
            · exact fS x mx y my hxy
            · rw [List.mem_singleton.mp my] at hxy ⊢
              exact apart_iff.mp (g x mx) hxy
          · rcases List.mem_append.mp hy with my | my
            · rw [List.mem_singleton.mp mx] at hxy ⊢
              have := apart_iff.mp (g y my) (fun z => hxy z.symm)
              omega
            · rw [List.mem_singleton.mp mx, List.mem_singleton.mp my] at hxy
              exact absurd rfl hxy
    · rintro σ' H' ⟨x3, x4, x5, us, S, rfl, e2, hu, hU, lS, sR, fS⟩
      have := hA.1
      have := tb.len
      exact ⟨_, rfl, q p H' us S np e2 hu hU (tb.sub sR (by omega)) fS⟩
/-! _law_torn_by -/

def sp_torn_by (K : PySem.W.Frag) : Sp := fun vs H Q _ => ∃ (a b : Addr) (xs fs : List Int) (m : Int), vs = [.ref a, .ref b, .int m] ∧ TpI K H a xs ∧ EarL xs ∧ SqL K H b (fs.map V.int) ∧ 0 ≤ m ∧ ∀ (p : Addr) (H' : Hp) (zs : List Int), Ex H H' → H' p = some (.tup (zs.map V.int)) → EarL zs → lowB xs zs = true → tearI xs zs ≤ m → Q (.ref p) H'
theorem ok_torn_by (T : Txt K mg) : FnOk P w K mg base CX0 1 T.f_torn_by T.fd_torn_by ["_law_ear_here", "_law_figures", "_law_many"] (sp_torn_by K) := by
  refine T.F_torn_by.ok sc_torn_by (fun vs H Q E h => ?_) (fun cdv A outer s H vs Q E hr h => ?_)

  · obtain ⟨a, b, xs, fs, m, rfl, _⟩ := h
    rfl
  · obtain ⟨a, b, xs, fs, m, rfl, hx, E6, hf, hm0, q⟩ := h
    refine ⟨_, (pss_cons (ps_set (i := 3) sc_torn_by.nd rfl (Or.inl rfl) (pe_callTy call_list_of (by rfl) T.m_list (by decide +kernel) (pa_cons (pv 0) pa_nil)))
      (pss_cons (ps_for PassesOwn.never rfl (pi_list (pv 1)) (pg_name (i := 4) sc_torn_by.nd rfl (Or.inl rfl)) (pss_one (ps_if (PW.pt (pw_and (pt_cmpR op_gt (pv 2) pe_int (nomark _)) (pw_and1 (pt_cmpR op_lt (pe_ix ix_list (pv 3) (pe_op op_mod (pv 4) pe_int) (fun _ _ => rfl)) pe_int (nomark _))))) (pss_cons (ps_asg (pe_op op_add (pe_ix ix_list (pv 3) (pe_op op_mod (pv 4) pe_int) (fun _ _ => rfl)) pe_int) (pg_sub (pv 3) (pe_op op_mod (pv 4) pe_int) set_list))
      (pss_one (ps_set (i := 2) sc_torn_by.nd rfl (Or.inl rfl) (pe_op op_sub (pv 2) pe_int)))) pss_nil)))
      (pss_one (ps_ret (pe_callTy call_tuple_of (by rfl) T.m_tuple (by decide +kernel) (pa_cons (pv 3) pa_nil)))))), ?_⟩
    refine ⟨_, rfl, a, _, rfl, .inr hx, fun p np => ?_⟩
    have e1 := Ex.new (o := .lst (xs.map V.int)) np
    refine ⟨_, rfl, b, rfl, ⟨_, ex_l e1 hf⟩, for_it (walk_list (K := K) (a := b) (xs := fs.map V.int)) (fun i σ' H' => ∃ (m' : Int) (f' : Option V) (zs : List Int), σ' = [some (.ref a), some (.ref b), some (.int m'), some (.ref p), f'] ∧ Ex H H' ∧ H' p = some (.lst (zs.map V.int)) ∧ EarL zs ∧ lowB xs zs = true ∧ 0 ≤ m' ∧ tearI xs zs + m' ≤ m) ⟨_, _, xs, rfl, e1, upd_same, E6, low_refl xs, hm0, by rw [tear_self]; omega⟩ ?_ ?_ ?_⟩
    · rintro i σ' H' _ ⟨m', f', zs, rfl, e2, _⟩
      exact ex_l e2 hf
    · rintro i v σ' H' H'' hi ⟨m', f', zs, rfl, e2, h2, Ez, lz, m0, tz⟩ ⟨rfl, gv⟩
      obtain ⟨f, rfl, _, _⟩ := get_int gv
      have hj : (f % 6).toNat < zs.length := by
        rw [Ez.1]
        omega
      have ej : f % 6 = (((f % 6).toNat : Nat) : Int) := by omega
      have ga : atI (zs.map V.int) (f % 6) = some (.int zs[(f % 6).toNat]) := at_of (j := (f % 6).toNat) ej (by rw [List.getElem?_map, List.getElem?_eq_getElem hj]; rfl)
      have gz : zs[(f % 6).toNat]? = some zs[(f % 6).toNat] := List.getElem?_eq_getElem hj
      have bz := Ez.2 _ (List.getElem_mem hj)
      refine ⟨_, rfl, _, _, rfl, rfl, _, rfl, ite2 (fun c0 => ?_) (fun _ => iteF ⟨m', _, zs, rfl, e2, h2, Ez, lz, m0, tz⟩)⟩
      have c0' : 0 < m' := of_decide_eq_true c0
      refine ⟨_, rfl, _, rfl, _, _, rfl, rfl, (by show (0 : Int) < 6; decide), p, _, _, _, rfl, rfl, sq_of h2, ga, _, _, rfl, rfl, _, rfl, ite2 (fun c => ?_) (fun _ => ⟨m', _, zs, rfl, e2, h2, Ez, lz, m0, tz⟩)⟩
      have c' : zs[(f % 6).toNat] < 9 := of_decide_eq_true c
      refine ⟨_, rfl, _, rfl, _, _, rfl, rfl, (by show (0 : Int) < 6; decide), p, _, _, _, rfl, rfl, sq_of h2, ga, _, _, rfl, rfl, _, rfl, _, rfl, _, _, rfl, rfl, (by show (0 : Int) < 6; decide), ?_⟩
      refine ⟨p, _, _, (f % 6).toNat, rfl, rfl, h2, by rw [ej]; exact ixN_nat (by rw [List.length_map]; exact hj), ?_⟩
      have ts := tear_set xs zs _ _ gz
      refine ⟨_, rfl, _, _, rfl, rfl, _, _, zs.set (f % 6).toNat (zs[(f % 6).toNat] + 1), rfl, Ex.mut e2 np, ?_, ⟨?_, ?_⟩, low_set xs zs _ _ gz lz, by omega, by omega⟩
      · rw [upd_same, List.map_set]
      · rw [List.length_set]
        exact Ez.1
      · intro z hz
        rcases List.mem_or_eq_of_mem_set hz with mm | rfl
        · exact Ez.2 z mm
        · omega
    · rintro σ' H' ⟨m', f', zs, rfl, e2, h2, Ez, lz, m0, tz⟩
      exact s_retU (eu_tupleL (ev_var rfl) (sq_of h2)) fun p2 H2 _ e3 h3 => q p2 H2 zs (e2.trans e3) h3 Ez lz (by omega)
/-! lacks -/

def sp_lacks (K : PySem.W.Frag) : Sp := fun vs H Q _ => ∃ (a b : Addr) (xs ys : List Int), vs = [.ref a, .ref b] ∧ TpI K H a xs ∧ TpI K H b ys ∧ xs.length = ys.length ∧ xs.length ≤ 1000 ∧ ∀ H', Ex H H' → Q (.int (tearI xs ys)) H'
theorem ok_lacks (T : Txt K mg) : FnOk P w K mg base CX0 1 T.f_lacks T.fd_lacks ["one", "other"] (sp_lacks K) := by
  refine T.F_lacks.ok sc_lacks (fun vs H Q E h => ?_) (fun cdv A outer s H vs Q E hr h => ?_)

  · obtain ⟨a, b, xs, ys, rfl, _⟩ := h
    rfl
  · obtain ⟨a, b, xs, ys, rfl, hx, hy, hl, hz, q⟩ := h
    refine ⟨_, (pss_one (ps_ret (pe_callB (cr_sum rfl) (by rfl) T.m_sum (by decide +kernel) (pa_cons (pe_lc (own := [("here", 2), ("there", 3)]) (g := gTwo K 2 3) (by rfl) sc_lacks.nd (pi_zipA (by rfl) T.m_zip (pa_cons (pv 0) (pa_cons (pv 1) pa_nil))) (blkOk_by (own := [("here", 2), ("there", 3)]) (N := ["one", "other", "here", "there"]) (sc := defScope s_lacks) (by decide +kernel)) (fun _ _ _ _ _ => pg_tup rfl (pgs_cons (pg_name (i := 2) sc_lacks.nd rfl (Or.inl rfl)) (pgs_cons (pg_name (i := 3) sc_lacks.nd rfl (Or.inl rfl)) pgs_nil))) (fun _ _ _ _ _ => pts_one (pt_cmpR op_gt (pv 3) (pv 2) (nomark _))) (fun _ _ _ _ _ => (pe_op op_sub (pv 3) (pv 2)))) pa_nil)))), ?_⟩
    rw [← lackI_eq] at q
    refine s_ret (ev_sum (ns := ((xs.zip ys).filter fun p : Int × Int => decide (p.1 < p.2)).map fun p : Int × Int => p.2 - p.1) ?_) q
    rw [List.map_map]
    exact ez_intsIf (K := K) (fun x y => decide (x < y)) (fun x y => .int (y - x)) (ea_cons (ev_var rfl) (ea_cons (ev_var rfl) ea_nil)) hx hy hl hz (fun _ _ => rfl) (fun x y H' _ => et_test (ev_op (ev_var rfl) (ev_var rfl) rv_I0)) (fun x y H' _ => ev_op (ev_var rfl) (ev_var rfl) rv_I0)
/-! joint -/

def sp_joint (K : PySem.W.Frag) : Sp := fun vs H Q _ => ∃ (a b : Addr) (xs ys : List Int), vs = [.ref a, .ref b] ∧ TpI K H a xs ∧ TpI K H b ys ∧ xs.length = ys.length ∧ xs.length ≤ 1000 ∧ ∀ (p : Addr) (H' : Hp), Ex H H' → H' p = some (.tup ((maxL xs ys).map V.int)) → Q (.ref p) H'
theorem ok_joint (T : Txt K mg) : FnOk P w K mg base CX0 1 T.f_joint T.fd_joint ["one", "other"] (sp_joint K) := by
  refine T.F_joint.ok sc_joint (fun vs H Q E h => ?_) (fun cdv A outer s H vs Q E hr h => ?_)

  · obtain ⟨a, b, xs, ys, rfl, _⟩ := h
    rfl
  · obtain ⟨a, b, xs, ys, rfl, hx, hy, hl, hz, q⟩ := h
    refine ⟨_, (pss_one (ps_ret (pe_callTy call_tuple_of (by rfl) T.m_tuple (by decide +kernel) (pa_cons (pe_lc (own := [("here", 2), ("there", 3)]) (g := gTwo K 2 3) (tt := tYes) (by rfl) sc_joint.nd (pi_zipA (by rfl) T.m_zip (pa_cons (pv 0) (pa_cons (pv 1) pa_nil))) (blkOk_by (own := [("here", 2), ("there", 3)]) (N := ["one", "other", "here", "there"]) (sc := defScope s_joint) (by decide +kernel)) (fun _ _ _ _ _ => pg_tup rfl (pgs_cons (pg_name (i := 2) sc_joint.nd rfl (Or.inl rfl)) (pgs_cons (pg_name (i := 3) sc_joint.nd rfl (Or.inl rfl)) pgs_nil))) (fun _ _ _ _ _ => pts_nil) (fun _ _ _ _ _ => (pe_callB (call_max2 rfl) (by rfl) T.m_max (by decide +kernel) (pa_cons (pv 2) (pa_cons (pv 3) pa_nil))))) pa_nil)))), ?_⟩
    refine s_retU (eu_tuple (ez_ints (K := K) (fun x y => .int (max x y)) (ea_cons (ev_var rfl) (ea_cons (ev_var rfl) ea_nil)) hx hy hl hz (fun _ _ => rfl) (fun x y H' _ _ => ev_max (ev_var rfl) (ev_var rfl)))) fun p H1 _ e1 h1 => q p H1 e1 ?_
    unfold maxL
    rw [List.map_map]
    exact h1
/-! passing -/

def waysI (o : Int) (e : List Int) (R : List Rw) (rm : Int) : List Wy := (R.filter fun r => !decide (r.1 = o) && decide (tearI r.2 e ≤ rm)).map fun r => (tearI e r.2, r.1, maxL e r.2)
def sp_passing (K : PySem.W.Frag) : Sp := fun vs H Q _ => ∃ (a b : Addr) (xs : List Int) (o rm : Int) (ws : List V) (R : List Rw), vs = [.int o, .ref a, .ref b, .int rm] ∧ TpI K H a xs ∧ EarL xs ∧ H b = some (.lst ws) ∧ All2 (RowAt H) ws R ∧ R.length ≤ 1000 ∧ (∀ r ∈ R, EarL r.2) ∧
  (waysI o xs R rm = [] → ∀ H', Ex H H' → Q .non H') ∧ (∀ w, w ∈ waysI o xs R rm → (∀ z ∈ waysI o xs R rm, ¬ wk z < wk w) → ∀ v H', Ex H H' → WayAt H' v w → Q v H')
theorem ok_passing (T : Txt K mg) : FnOk P w K mg base CX0 2 T.f_passing T.fd_passing ["owner", "ear", "rows", "room"] (sp_passing K) := by
  refine T.F_passing.ok sc_passing (fun vs H Q E h => ?_) (fun cdv A outer s H vs Q E hr h => ?_)

  · obtain ⟨a, b, xs, o, rm, ws, R, rfl, _⟩ := h
    rfl
  · obtain ⟨a, b, xs, o, rm, ws, R, rfl, hx, E6, hb, hA, lR, eR, q0, q⟩ := h
    refine ⟨_, (pss_cons (ps_setLc (i := 4) (own := [("holder", 5), ("mark", 6)]) (g := gTwo K 5 6) (by rfl) sc_passing.nd rfl rfl (sw_true rfl rfl rfl (by decide +kernel)) (pi_list (pv 2)) (blkOk_by (own := [("holder", 5), ("mark", 6)]) (N := ["owner", "ear", "rows", "room", "ways", "holder", "mark"]) (sc := defScope s_passing) (by decide +kernel)) (fun _ _ _ _ _ => pg_tup rfl (pgs_cons (pg_name (i := 5) sc_passing.nd rfl (Or.inl rfl)) (pgs_cons (pg_name (i := 6) sc_passing.nd rfl (Or.inl rfl)) pgs_nil))) (fun _ _ _ _ _ => pts_one (PW.pt (pw_and (pt_cmpR op_ne (pv 5) (pv 0) (nomark _)) (pw_and1 (pt_cmpR op_le (pe_call (ok_lacks T) (hr.mono (by decide)) (by rfl) T.g_lacks T.F_lacks.kp T.b_lacks .nil pass0 (pa_cons (pv 6) (pa_cons (pv 1) pa_nil))) (pv 3) (nomark _)))))) (fun _ _ _ _ _ => (pe_tup (pa_cons (pe_call (ok_lacks T) (hr.mono (by decide)) (by rfl) T.g_lacks T.F_lacks.kp T.b_lacks .nil pass0 (pa_cons (pv 1) (pa_cons (pv 6) pa_nil))) (pa_cons (pv 5) (pa_cons (pe_call (ok_joint T) (hr.mono (by decide)) (by rfl) T.g_joint T.F_joint.kp T.b_joint .nil pass0 (pa_cons (pv 1) (pa_cons (pv 6) pa_nil))) pa_nil))))))
      (pss_one (ps_ret (pe_callBK (cr_minDat (hu65 hr) rfl) (by rfl) T.m_min (by decide +kernel) (pa_cons (pv 4) pa_nil) (pk_cons pe_non pk_nil))))), ?_⟩
    have z1 : xs.length ≤ 1000 := by rw [E6.1]; decide
    refine q_asgM (em_list (K := K) (L := R) (P := RowAt) (fun H v (r : Rw) => WayAt H v (tearI xs r.2, r.1, maxL xs r.2)) ⟨fun e h => stay_way.mono e h, fun hD h => stay_way.upd hD h⟩ stay_row (fun r => !decide (r.1 = o) && decide (tearI r.2 xs ≤ rm)) (er_var rfl hb fun H3 e3 => All2.mono stay_row e3 hA) (by omega) fun x hx' v H3 e3 hv Qy Qn qy qn => turn_two hv fun mm hmm => ⟨rfl, ?_⟩) fun p1 H1 us n1 e1 h1 hU => ?_
    · have El := eR x hx'
      have hl2 : x.2.length = xs.length := by rw [El.1, E6.1]
      have z2 : x.2.length ≤ 1000 := by rw [El.1]; decide
      refine ⟨_, rfl, _, rfl, rfl, _, rfl, ?_⟩
      by_cases c : x.1 = o
      · rw [decide_eq_true (congrArg V.int c)]
        refine iteF (iteF (qn ?_ _ (Ex.refl _)))
        rw [decide_eq_true c]
        rfl
      · rw [decide_eq_false (fun z => c (V.int.inj z))]
        refine iteT ⟨_, rfl, _, rfl, mm, a, x.2, xs, rfl, st_of hmm, ex_t e3 hx, hl2, z2, fun H4 e4 => ⟨_, rfl, _, _, rfl, rfl, _, rfl, ?_⟩⟩
        by_cases c2 : tearI x.2 xs ≤ rm
        · rw [decide_eq_true c2]
          refine iteT ⟨_, rfl, _, rfl, a, mm, xs, x.2, rfl, ex_t (e3.trans e4) hx, st_of (e4 _ _ hmm), hl2.symm, z1, fun H5 e5 => ⟨_, rfl, _, rfl, _, rfl, a, mm, xs, x.2, rfl, ex_t ((e3.trans e4).trans e5) hx, st_of (e5 _ _ (e4 _ _ hmm)), hl2.symm, z1, fun pj H6 e6 h6 => ⟨(by show 3 ≤ sizeLine; decide), fun pt nt => ?_⟩⟩⟩
          have et := Ex.new (o := .tup [.int (tearI xs x.2), .int x.1, .ref pj]) nt
          refine qy ?_ _ _ (((e4.trans e5).trans e6).trans et) ⟨pt, pj, rfl, upd_same, et _ _ h6⟩
          rw [decide_eq_false c, decide_eq_true c2]
          rfl
        · rw [decide_eq_false c2]
          refine iteF (qn ?_ _ e4)
          rw [decide_eq_false c2, Bool.and_false]
    · have hW : All2 (WayAt H1) us (waysI o xs R rm) := All2.map (fun r : Rw => (tearI xs r.2, r.1, maxL xs r.2)) hU
      refine ⟨_, rfl, ?_⟩
      refine min_ways (K := K) h1 hW (fun e => q0 e H1 e1) (fun v w mw low hv => q w mw low v H1 e1 hv)
/-! _law_cell -/

def sp_cell (K : PySem.W.Frag) : Sp := fun vs H Q _ => ∃ (a : Addr) (ns : List Int) (j : Int), vs = [.ref a, .int j] ∧ SqL K H a (ns.map V.int) ∧ 0 ≤ j ∧ ∀ c : Int, Q (.int c) H
theorem ok_cell (T : Txt K mg) : FnOk P w K mg base CX0 1 T.f_cell T.fd_cell ["_law_script", "_law_k"] (sp_cell K) := by
  refine T.F_cell.ok sc_cell (fun vs H Q E h => ?_) (fun cdv A outer s H vs Q E hr h => ?_)

  · obtain ⟨a, ns, j, rfl, _⟩ := h
    rfl
  · obtain ⟨a, ns, j, rfl, hS, hj, q⟩ := h
    refine ⟨_, (pss_cons (ps_if (pt_cmpR op_lt (pv 1) (pe_callB call_len_seq (by rfl) T.m_len (by decide +kernel) (pa_cons (pv 0) pa_nil)) (nomark _)) (pss_one (ps_ret (pe_ix ix_list (pv 0) (pv 1) (fun _ _ => rfl)))) pss_nil)
      (pss_one (ps_ret pe_int))), ?_⟩
    refine ⟨_, rfl, _, rfl, a, _, rfl, .inl hS, _, _, rfl, rfl, _, rfl, ite2 (fun c => ?_) (fun c => ?_)⟩
    · have c' : j < ((ns.map V.int).length : Int) := of_decide_eq_true c
      have hk : j.toNat < ns.length := by
        rw [List.length_map] at c'
        omega
      refine ⟨_, rfl, _, rfl, a, _, j, .int ns[j.toNat], rfl, rfl, hS, at_of (j := j.toNat) (by omega) ?_, q _⟩
      rw [List.getElem?_map, List.getElem?_eq_getElem hk]
      rfl
    · exact q 0
/-! _law_row -/

def sp_row (K : PySem.W.Frag) : Sp := fun vs H Q _ => ∃ c many b : Int, vs = [.int c, .int many, .int b] ∧ (0 ≤ many ∧ many ≤ 1000) ∧ (0 < b ∧ b < 1000000) ∧
  ∀ (p : Addr) (H' : Hp) (xs : List Int), Ex H H' → H' p = some (.lst (xs.map V.int)) → (xs.length : Int) = many → (∀ x ∈ xs, 0 ≤ x ∧ x < b) → Q (.ref p) H'
theorem ok_row (T : Txt K mg) : FnOk P w K mg base CX0 1 T.f_row T.fd_row ["_law_cell_here", "_law_many", "_law_base"] (sp_row K) := by
  refine T.F_row.ok sc_row (fun vs H Q E h => ?_) (fun cdv A outer s H vs Q E hr h => ?_)

  · obtain ⟨c, many, b, rfl, _⟩ := h
    rfl
  · obtain ⟨c, many, b, rfl, hm, hb, q⟩ := h
    refine ⟨_, (pss_cons (ps_set (i := 3) sc_row.nd rfl (Or.inl rfl) (pe_lst pa_nil))
      (pss_cons (ps_set (i := 0) sc_row.nd rfl (Or.inl rfl) (pe_callB call_abs (by rfl) T.m_abs (by decide +kernel) (pa_cons (pv 0) pa_nil)))
      (pss_cons (ps_if (pt_cmpR op_ge (pv 0) (pe_op op_pow pe_int pe_int) (nomark _)) (pss_cons (ps_for PassesOwn.never rfl (pi_range1 (by rfl) T.m_range (pa_cons (pv 1) pa_nil)) (pg_name (i := 4) sc_row.nd rfl (Or.inl rfl)) (pss_cons (ps_expr (pe_bm PySem.F.plainAttrs_list PySem.F.slot_list_append PySem.F.type_list_append mt_append (pv 3) (pa_cons (pe_op op_mod (pv 0) (pv 2)) pa_nil)))
      (pss_one (ps_set (i := 0) sc_row.nd rfl (Or.inl rfl) (pe_op op_fdiv (pv 0) (pv 2))))))
      (pss_one (ps_ret (pv 3)))) pss_nil)
      (pss_cons (ps_set (i := 5) sc_row.nd rfl (Or.inl rfl) (pe_op op_mod (pe_op op_mul (pe_op op_add (pe_op op_mod (pv 0) pe_int) pe_int) pe_int) pe_int))
      (pss_cons (ps_for PassesOwn.never rfl (pi_range1 (by rfl) T.m_range (pa_cons (pv 1) pa_nil)) (pg_name (i := 4) sc_row.nd rfl (Or.inl rfl)) (pss_cons (ps_set (i := 5) sc_row.nd rfl (Or.inl rfl) (pe_op op_mod (pe_op op_add (pe_op op_add (pe_op op_mul (pv 5) pe_int) (pe_op op_mul pe_int (pv 4))) pe_int) pe_int))
      (pss_one (ps_expr (pe_bm PySem.F.plainAttrs_list PySem.F.slot_list_append PySem.F.type_list_append mt_append (pv 3) (pa_cons (pe_op op_mod (pe_op op_fdiv (pv 5) pe_int) (pv 2)) pa_nil))))))
      (pss_one (ps_ret (pv 3)))))))), ?_⟩
    refine ⟨Nat.zero_le _, fun p np => ?_⟩
    refine ⟨_, rfl, _, rfl, ?_⟩
    refine ⟨_, rfl, _, _, rfl, rfl, ⟨by decide, by decide, by decide⟩, _, _, rfl, rfl, _, rfl, ite2 (fun _ => ?_) (fun _ => ?_)⟩
    · refine q_forR1 (n := many) (ea_cons (ev_var rfl) ea_nil) ⟨by omega, by omega⟩ (fun i σ' H' => ∃ (c' : Int) (k' t' : Option V) (xs : List Int), σ' = [some (.int c'), some (.int many), some (.int b), some (.ref p), k', t'] ∧ Ex H H' ∧ H' p = some (.lst (xs.map V.int)) ∧ xs.length = i ∧ ∀ x ∈ xs, 0 ≤ x ∧ x < b) ?_ ?_ ?_
      · intro H1 e1
        exact ⟨_, _, _, [], rfl, (Ex.new np).trans e1, e1 _ _ upd_same, rfl, by simp⟩
      · rintro i σ' H' hi ⟨c', k', t', xs, rfl, e1, h1, hl, hx⟩
        refine ⟨_, rfl, .inl ⟨rfl, _, SqL.of h1⟩, _, rfl, _, rfl, _, _, rfl, rfl, hb.1, p, _, _, rfl, rfl, h1, sz_lt ?_, ?_⟩
        · rw [List.length_map]
          omega
        · refine ⟨_, rfl, _, rfl, _, _, rfl, rfl, ⟨hb.1, by omega⟩, ?_⟩
          refine ⟨_, _, _, xs ++ [c' % b], rfl, Ex.mut e1 np, ?_, by simp [hl], ?_⟩
          · rw [upd_same, List.map_append]
            rfl
          · intro x hx'
            rcases List.mem_append.mp hx' with m | m
            · exact hx x m
            · rw [List.mem_singleton.mp m]
              exact ⟨Int.emod_nonneg _ (by omega), Int.emod_lt_of_pos _ hb.1⟩
      · rintro σ' H' ⟨c', k', t', xs, rfl, e1, h1, hl, hx⟩
        exact ⟨_, rfl, q p H' xs e1 h1 (by omega) hx⟩
    · refine ⟨_, rfl, _, _, rfl, rfl, (by show (0 : Int) < 1000003; decide), _, _, rfl, rfl, _, _, rfl, rfl, .inl ⟨?_, ?_⟩, _, _, rfl, rfl, (by show (0 : Int) < 2147483647; decide), ?_⟩
      · omega
      · omega
      refine q_forR1 (n := many) (ea_cons (ev_var rfl) ea_nil) ⟨by omega, by omega⟩ (fun i σ' H' => ∃ (c' t' : Int) (k' : Option V) (xs : List Int), σ' = [some (.int c'), some (.int many), some (.int b), some (.ref p), k', some (.int t')] ∧ (0 ≤ t' ∧ t' < 2147483647) ∧ Ex H H' ∧ H' p = some (.lst (xs.map V.int)) ∧ xs.length = i ∧ ∀ x ∈ xs, 0 ≤ x ∧ x < b) ?_ ?_ ?_
      · intro H1 e1
        exact ⟨_, _, _, [], rfl, ⟨by omega, by omega⟩, (Ex.new np).trans e1, e1 _ _ upd_same, rfl, by simp⟩
      · rintro i σ' H' hi ⟨c', t', k', xs, rfl, ht, e1, h1, hl, hx⟩
        refine ⟨_, rfl, _, _, rfl, rfl, .inl ⟨by omega, by omega⟩, _, rfl, _, _, rfl, rfl, .inl ⟨by decide, by decide⟩, _, _, rfl, rfl, _, _, rfl, rfl, _, _, rfl, rfl, (by show (0 : Int) < 2147483647; decide), ?_⟩
        refine ⟨_, rfl, .inl ⟨rfl, _, SqL.of h1⟩, _, rfl, _, _, rfl, rfl, ⟨by decide, by decide⟩, _, rfl, _, _, rfl, rfl, hb.1, p, _, _, rfl, rfl, h1, sz_lt ?_, ?_⟩
        · rw [List.length_map]
          omega
        · refine ⟨_, _, _, xs ++ [(t' * 48271 + 9973 * (i : Int) + 11) % 2147483647 / 1021 % b], rfl, ⟨by omega, by omega⟩, Ex.mut e1 np, ?_, by simp [hl], ?_⟩
          · rw [upd_same, List.map_append]
            rfl
          · intro x hx'
            rcases List.mem_append.mp hx' with m | m
            · exact hx x m
            · rw [List.mem_singleton.mp m]
              exact ⟨Int.emod_nonneg _ (by omega), Int.emod_lt_of_pos _ hb.1⟩
      · rintro σ' H' ⟨c', t', k', xs, rfl, ht, e1, h1, hl, hx⟩
        exact ⟨_, rfl, q p H' xs e1 h1 (by omega) hx⟩
/-! _law_near -/

def moreT : List Int := [0, 0, 0, 0, 0, 1, 1, 2, 3, -1]
theorem more_at {y : Int} (h : 0 ≤ y ∧ y ≤ 9) : ∃ m : Int, atI (moreT.map V.int) y = some (.int m) := by
  have h6 : y.toNat < moreT.length := by
    show y.toNat < 10
    omega
  exact ⟨moreT[y.toNat], at_of (j := y.toNat) (by omega) (by rw [List.getElem?_map, List.getElem?_eq_getElem h6]; rfl)⟩
def sp_near (K : PySem.W.Frag) : Sp := fun vs H Q _ => ∃ (a b : Addr) (xs ys : List Int), vs = [.ref a, .ref b] ∧ TpI K H a xs ∧ SqL K H b (ys.map V.int) ∧ EarL xs ∧ EarL ys ∧ ∀ (p : Addr) (H' : Hp) (zs : List Int), Ex H H' → H' p = some (.tup (zs.map V.int)) → EarL zs → Q (.ref p) H'
theorem ok_near (T : Txt K mg) : FnOk P w K mg base CX0 1 T.f_near T.fd_near ["_law_ear_here", "_law_figures"] (sp_near K) := by
  refine T.F_near.ok sc_near (fun vs H Q E h => ?_) (fun cdv A outer s H vs Q E hr h => ?_)

  · obtain ⟨a, b, xs, ys, rfl, _⟩ := h
    rfl
  · obtain ⟨a, b, xs, ys, rfl, hx, hy, Ex6, Ey6, q⟩ := h
    refine ⟨_, (pss_cons (ps_set (i := 2) sc_near.nd rfl (Or.inl rfl) (pe_lst pa_nil))
      (pss_cons (ps_for PassesOwn.never rfl (pi_zipTL (by rfl) T.m_zip (pa_cons (pv 0) (pa_cons (pv 1) pa_nil))) (pg_tup rfl (pgs_cons (pg_name (i := 3) sc_near.nd rfl (Or.inl rfl)) (pgs_cons (pg_name (i := 4) sc_near.nd rfl (Or.inl rfl)) pgs_nil))) (pss_cons (ps_set (i := 5) sc_near.nd rfl (Or.inl rfl) (pe_ix ix_tup (pe_tup (pa_cons pe_int (pa_cons pe_int (pa_cons pe_int (pa_cons pe_int (pa_cons pe_int (pa_cons pe_int (pa_cons pe_int (pa_cons pe_int (pa_cons pe_int (pa_cons (pe_un un_neg pe_int) pa_nil))))))))))) (pv 4) (fun _ _ => rfl)))
      (pss_one (ps_expr (pe_bm PySem.F.plainAttrs_list PySem.F.slot_list_append PySem.F.type_list_append mt_append (pv 2) (pa_cons (pe_callB (call_max2 rfl) (by rfl) T.m_max (by decide +kernel) (pa_cons pe_int (pa_cons (pe_callB (call_min2 rfl) (by rfl) T.m_min (by decide +kernel) (pa_cons pe_int (pa_cons (pe_op op_add (pv 3) (pv 5)) pa_nil))) pa_nil))) pa_nil))))))
      (pss_one (ps_ret (pe_callTy call_tuple_of (by rfl) T.m_tuple (by decide +kernel) (pa_cons (pv 2) pa_nil)))))), ?_⟩
    refine ⟨Nat.zero_le _, fun p np => ?_⟩
    have e1 : Ex H (upd H p (.lst [])) := Ex.new np
    have lx : (xs.map V.int).length = (ys.map V.int).length := by
      rw [List.length_map, List.length_map, Ex6.1, Ey6.1]
    refine ⟨_, rfl, _, rfl, a, b, _, _, rfl, ex_t e1 hx, ex_l e1 hy, for_it (walkTL lx) (fun i σ' H' => ∃ (d' f' m' : Option V) (zs : List Int), σ' = [some (.ref a), some (.ref b), some (.ref p), d', f', m'] ∧ Ex H H' ∧ H' p = some (.lst (zs.map V.int)) ∧ zs.length = i ∧ ∀ z ∈ zs, 0 ≤ z ∧ z ≤ 9) ?_ ?_ ?_ ?_⟩
    · exact ⟨_, _, _, [], rfl, e1, upd_same, rfl, by simp⟩
    · rintro i σ' H' _ ⟨d', f', m', zs, rfl, e2, _⟩
      exact ⟨ex_t e2 hx, ex_l e2 hy⟩
    · rintro i v σ' H' H'' hi ⟨d', f', m', zs, rfl, e2, h2, hl, hz⟩ ⟨T, x, y, rfl, nT, rfl, gx, gy⟩
      obtain ⟨x', rfl, _, mx⟩ := get_int gx
      obtain ⟨y', rfl, _, my⟩ := get_int gy
      have bx := Ex6.2 x' mx
      have hi6 : i < 6 := by
        rw [List.length_map, Ex6.1] at hi
        exact hi
      obtain ⟨m, hm⟩ := more_at (Ey6.2 y' my)
      refine gTwo_of ?_
      have eT : Ex H' (upd H' T (.tup [.int x', .int y'])) := Ex.new nT
      have h3 := eT _ _ h2
      refine ⟨1, rfl, (by show 10 ≤ sizeLine; decide), fun t nt => ⟨_, rfl, t, _, y', .int m, rfl, rfl, st_of upd_same, hm, ?_⟩⟩
      have et := Ex.new (o := .tup (moreT.map V.int)) nt
      have h4 := et _ _ h3
      refine ⟨_, rfl, .inl ⟨rfl, _, SqL.of h4⟩, _, rfl, _, rfl, _, _, rfl, rfl, 9, _, rfl, 0, _, rfl, p, _, _, rfl, rfl, h4, sz_lt ?_, ?_⟩
      · rw [List.length_map]
        omega
      · refine ⟨_, _, _, zs ++ [if (if x' + m < 9 then x' + m else 9) > 0 then if x' + m < 9 then x' + m else 9 else 0], rfl, Ex.mut ((e2.trans eT).trans et) np, ?_, by simp [hl], ?_⟩
        · rw [upd_same, List.map_append]
          rfl
        · intro z hz'
          rcases List.mem_append.mp hz' with mm | mm
          · exact hz z mm
          · rw [List.mem_singleton.mp mm]
            constructor <;> omega
    · rintro σ' H' ⟨d', f', m', zs, rfl, e2, h2, hl, hz⟩
      refine s_retU (eu_tupleL (ev_var rfl) (sq_of h2)) fun p2 H2 _ e3 h3 => q p2 H2 zs (e2.trans e3) h3 ⟨?_, hz⟩
      rw [hl, List.length_map, Ex6.1]
/-! _law_ear_by -/

def sp_ear_by (K : PySem.W.Frag) : Sp := fun vs H Q _ => ∃ (a : Addr) (xs : List Int) (m : Int), vs = [.ref a, .int m] ∧ SqL K H a (xs.map V.int) ∧ EarL xs ∧ ∀ (p : Addr) (H' : Hp) (zs : List Int), Ex H H' → H' p = some (.tup (zs.map V.int)) → EarL zs → Q (.ref p) H'
theorem ok_ear_by (T : Txt K mg) : FnOk P w K mg base CX0 1 T.f_ear_by T.fd_ear_by ["_law_figures", "_law_mode"] (sp_ear_by K) := by
  refine T.F_ear_by.ok sc_ear_by (fun vs H Q E h => ?_) (fun cdv A outer s H vs Q E hr h => ?_)

  · obtain ⟨a, xs, m, rfl, _⟩ := h
    rfl
  · obtain ⟨a, xs, m, rfl, hS, hx, q⟩ := h
    refine ⟨_, (pss_cons (ps_if (pt_cmpR op_eq (pe_op op_mod (pv 1) pe_int) pe_int (nomark _)) (pss_one (ps_ret (pe_callTy call_tuple_of (by rfl) T.m_tuple (by decide +kernel) (pa_cons (pe_lc (own := [("_law_figure", 2)]) (g := gName 2) (tt := tYes) (by rfl) sc_ear_by.nd (pi_list (pv 0)) (blkOk_by (own := [("_law_figure", 2)]) (N := ["_law_figures", "_law_mode", "_law_figure"]) (sc := defScope s_ear_by) (by decide +kernel)) (fun _ _ _ _ _ => pg_name (i := 2) sc_ear_by.nd rfl (Or.inl rfl)) (fun _ _ _ _ _ => pts_nil) (fun _ _ _ _ _ => (pe_callB (call_max2 rfl) (by rfl) T.m_max (by decide +kernel) (pa_cons pe_int (pa_cons (pe_op op_sub (pv 2) pe_int) pa_nil))))) pa_nil)))) pss_nil)
      (pss_cons (ps_if (pt_cmpR op_eq (pe_op op_mod (pv 1) pe_int) pe_int (nomark _)) (pss_one (ps_ret (pe_callTy call_tuple_of (by rfl) T.m_tuple (by decide +kernel) (pa_cons (pe_lc (own := [("_law_figure", 2)]) (g := gName 2) (tt := tYes) (by rfl) sc_ear_by.nd (pi_list (pv 0)) (blkOk_by (own := [("_law_figure", 2)]) (N := ["_law_figures", "_law_mode", "_law_figure"]) (sc := defScope s_ear_by) (by decide +kernel)) (fun _ _ _ _ _ => pg_name (i := 2) sc_ear_by.nd rfl (Or.inl rfl)) (fun _ _ _ _ _ => pts_nil) (fun _ _ _ _ _ => (pe_op op_mod (pv 2) pe_int))) pa_nil)))) pss_nil)
      (pss_one (ps_ret (pe_callTy call_tuple_of (by rfl) T.m_tuple (by decide +kernel) (pa_cons (pv 0) pa_nil)))))), ?_⟩
    have h6 : xs.length ≤ 1000 := by
      have := hx.1
      omega
    refine ⟨_, rfl, _, _, rfl, rfl, (by show (0 : Int) < 4; decide), rfl, _, rfl, ite2 (fun _ => ?_) (fun _ => ?_)⟩
    · refine s_retU (eu_tuple (em_ints (fun x => .int (max 0 (x - 7))) (ev_var rfl) hS h6 (fun _ => rfl) (fun x _ H1 _ => ev_max ev_c (ev_op (ev_var rfl) ev_c rv_I0)))) fun p H1 _ e1 h1 => q p H1 (xs.map fun x => max 0 (x - 7)) e1 (by rw [List.map_map]; exact h1) ⟨by simp [hx.1], ?_⟩
      intro y hy
      obtain ⟨x, mx, rfl⟩ := List.mem_map.mp hy
      have := hx.2 x mx
      omega
    refine ⟨_, rfl, _, _, rfl, rfl, (by show (0 : Int) < 4; decide), rfl, _, rfl, ite2 (fun _ => ?_) (fun _ => ?_)⟩
    · refine s_retU (eu_tuple (em_ints (fun x => .int (x % 3)) (ev_var rfl) hS h6 (fun _ => rfl) (fun x _ H1 _ => ev_op (ev_var rfl) ev_c (rv_I (by show (0 : Int) < 3; decide))))) fun p H1 _ e1 h1 => q p H1 (xs.map fun x => x % 3) e1 (by rw [List.map_map]; exact h1) ⟨by simp [hx.1], ?_⟩
      intro y hy
      obtain ⟨x, mx, rfl⟩ := List.mem_map.mp hy
      have := hx.2 x mx
      omega
    · exact s_retU (eu_tupleL (ev_var rfl) hS) fun p H1 _ e1 h1 => q p H1 xs e1 h1 hx
/-! _law_table -/

def sp_table (K : PySem.W.Frag) : Sp := fun vs H Q _ => ∃ (a b : Addr) (ns xs : List Int) (st : Int), vs = [.ref a, .int st, .ref b] ∧ SqL K H a (ns.map V.int) ∧ (0 ≤ st ∧ st ≤ 1000) ∧ TpI K H b xs ∧ EarL xs ∧
  ∀ (p : Addr) (H' : Hp) (ws : List V) (R : List Rw), H p = none → Ex H H' → H' p = some (.lst ws) → All2 (RowAt H') ws R → Tab R → Q (.ref p) H'
theorem ok_table (T : Txt K mg) : FnOk P w K mg base CX0 2 T.f_table T.fd_table ["_law_script", "_law_start", "_law_base"] (sp_table K) := by
  refine T.F_table.ok sc_table (fun vs H Q E h => ?_) (fun cdv A outer s H vs Q E hr h => ?_)

  · obtain ⟨a, b, ns, xs, st, rfl, _⟩ := h
    rfl
  · obtain ⟨a, b, ns, xs, st, rfl, hS, hst, hb, E6, q⟩ := h
    refine ⟨_, (pss_cons (ps_set (i := 3) sc_table.nd rfl (Or.inl rfl) (pe_slice sl_list (pv 0) (po_some (pv 1)) (po_some (pe_op op_add (pv 1) pe_int))))
      (pss_cut (ps_if (pt_cmpR op_eq (pe_op op_mod (pe_call (ok_cell T) (hr.mono (by decide)) (by rfl) T.g_cell T.F_cell.kp T.b_cell .nil pass0 (pa_cons (pv 0) (pa_cons pe_int pa_nil))) pe_int) pe_int (nomark _)) (pss_one (ps_set (i := 3) sc_table.nd rfl (Or.inl rfl) (pe_op op_cat (pv 3) (pe_lc (own := [("_law_k", 9)]) (g := gName 9) (tt := tYes) (by rfl) sc_table.nd (pi_range1 (by rfl) T.m_range (pa_cons pe_int pa_nil)) (blkOk_by (own := [("_law_k", 9)]) (N := ["_law_script", "_law_start", "_law_base", "_law_cells", "_law_rows", "_law_cell_here", "_law_figures", "_law_owner", "_law_mark", "_law_k"]) (sc := defScope s_table) (by decide +kernel)) (fun _ _ _ _ _ => pg_name (i := 9) sc_table.nd rfl (Or.inl rfl)) (fun _ _ _ _ _ => pts_nil) (fun _ _ _ _ _ => (pe_op op_add (pe_op op_mul (pe_op op_mod (pe_op op_fdiv (pe_call (ok_cell T) (hr.mono (by decide)) (by rfl) T.g_cell T.F_cell.kp T.b_cell .nil pass0 (pa_cons (pv 0) (pa_cons pe_int pa_nil))) pe_int) pe_int) pe_int) (pv 9))))))) pss_nil)
      (pss_cons (ps_set (i := 4) sc_table.nd rfl (Or.inl rfl) (pe_lst pa_nil))
      (pss_cons (ps_for PassesOwn.never rfl (pi_list (pv 3)) (pg_name (i := 5) sc_table.nd rfl (Or.inl rfl)) (pss_cons (ps_set (i := 6) sc_table.nd rfl (Or.inl rfl) (pe_call (ok_row T) (hr.mono (by decide)) (by rfl) T.g_row T.F_row.kp T.b_row .nil pass0 (pa_cons (pv 5) (pa_cons pe_int (pa_cons pe_int pa_nil)))))
      (pss_cons (ps_set (i := 7) sc_table.nd rfl (Or.inl rfl) (pe_op op_add pe_int (pe_op op_mod (pe_ix ix_list (pv 6) pe_int (fun _ _ => rfl)) pe_int)))
      (pss_cut (ps_if (pt_cmpR op_eq (pe_ix ix_list (pv 6) pe_int (fun _ _ => rfl)) pe_int (nomark _)) (pss_one (ps_set (i := 7) sc_table.nd rfl (Or.inl rfl) (pe_op op_add pe_int (pe_op op_mod (pe_callB call_abs (by rfl) T.m_abs (by decide +kernel) (pa_cons (pv 5) pa_nil)) (pe_op op_pow pe_int pe_int))))) pss_nil)
      (pss_cons (ps_set (i := 8) sc_table.nd rfl (Or.inl rfl) (pe_call (ok_near T) (hr.mono (by decide)) (by rfl) T.g_near T.F_near.kp T.b_near .nil pass0 (pa_cons (pv 2) (pa_cons (pe_slice sl_list (pv 6) (po_some pe_int) (po_some pe_int)) pa_nil))))
      (pss_cut (ps_if (pt_cmpR op_lt (pe_ix ix_list (pv 6) pe_int (fun _ _ => rfl)) pe_int (nomark _)) (pss_one (ps_set (i := 8) sc_table.nd rfl (Or.inl rfl) (pe_call (ok_ear_by T) (hr.mono (by decide)) (by rfl) T.g_ear_by T.F_ear_by.kp T.b_ear_by .nil pass0 (pa_cons (pe_slice sl_list (pv 6) (po_some pe_int) (po_some pe_int)) (pa_cons (pe_ix ix_list (pv 6) pe_int (fun _ _ => rfl)) pa_nil))))) pss_nil)
      (pss_cons (ps_expr (pe_bm PySem.F.plainAttrs_list PySem.F.slot_list_append PySem.F.type_list_append mt_append (pv 4) (pa_cons (pe_tup (pa_cons (pv 7) (pa_cons (pv 8) pa_nil))) pa_nil)))
      (pss_one (ps_if (pt_cmpR op_eq (pe_ix ix_list (pv 6) pe_int (fun _ _ => rfl)) pe_int (nomark _)) (pss_one (ps_expr (pe_bm PySem.F.plainAttrs_list PySem.F.slot_list_append PySem.F.type_list_append mt_append (pv 4) (pa_cons (pe_ix ix_list (pv 4) pe_int (fun _ _ => rfl)) pa_nil)))) pss_nil)))))))))
      (pss_one (ps_ret (pv 4))))))), ?_⟩
    refine ⟨_, rfl, _, rfl, st, rfl, _, rfl, _, _, rfl, rfl, _, rfl, a, _, rfl, hS, fun p1 n1 => ?_⟩
    obtain ⟨cs, ec, hc⟩ := cut_14 ns hst.1
    rw [ec]
    have e1 := Ex.new (o := .lst (cs.map V.int)) n1
    refine ⟨fun σ' H' => ∃ (c : Addr) (cs : List Int), σ' = [some (.ref a), some (.int st), some (.ref b), some (.ref c), none, none, none, none, none, none] ∧ Ex H H' ∧ H' c = some (.lst (cs.map V.int)) ∧ cs.length ≤ 64, ?_, ?_⟩
    · refine ⟨_, rfl, a, ns, 1, rfl, ex_l e1 hS, by decide, fun c1 => ⟨_, _, rfl, rfl, (by show (0 : Int) < 8; decide), rfl, _, rfl, ite2 (fun _ => ?_) (fun _ => ⟨p1, cs, rfl, e1, upd_same, by omega⟩)⟩⟩
      refine ⟨_, rfl, em_rng1 (n := 50) IntAt stay_int (fun _ => true) (ea_cons ev_c ea_nil) ⟨by decide, by decide⟩ (fun x hx H' e' Qy Qn qy qn => ⟨rfl, yes_if ?_⟩) _ (Ex.refl _) _ fun p2 H2 us n2 e2 h2 hU => ?_⟩
      · obtain ⟨is, ei, li⟩ := all_int hU
        rw [filter_yes, List.length_range] at li
        have li' : is.length = 50 := li
        refine ⟨p1, p2, cs.map V.int, us, rfl, rfl, e2 _ _ upd_same, h2, sz_of ?_, fun p3 n3 => ?_⟩
        · rw [ei, List.length_map, List.length_map]
          omega
        · refine ⟨p3, cs ++ is, rfl, (e1.trans e2).trans (Ex.new n3), ?_, ?_⟩
          · rw [upd_same, ei, List.map_append]
          · rw [List.length_append]
            omega
      · exact ⟨_, rfl, a, ns, 1, rfl, ex_l (e1.trans e') hS, by decide, fun c2 => ⟨_, _, rfl, rfl, ⟨by decide, by decide⟩, _, _, rfl, rfl, (by show (0 : Int) < 1000000; decide), _, _, rfl, rfl, .inr ⟨by decide, by decide⟩, _, rfl, _, _, rfl, rfl, qy rfl _ _ (Ex.refl _) ⟨_, rfl⟩⟩⟩
    clear hc ec e1 n1
    rintro σ' H1 ⟨c, cs, rfl, e1, hc, lc⟩
    refine ⟨Nat.zero_le _, fun p np => ?_⟩
    have nH := fresh_back e1 np
    have e2 := e1.trans (Ex.new (o := .lst []) np)
    have hc2 := (Ex.new (o := .lst []) np) _ _ hc
    refine ⟨_, rfl, c, rfl, ⟨_, sq_of hc2⟩, for_it (walk_list (K := K) (a := c) (xs := cs.map V.int)) (fun i σ' H' => ∃ (x5 x6 x7 x8 : Option V) (ws : List V) (R : List Rw), σ' = [some (.ref a), some (.int st), some (.ref b), some (.ref c), some (.ref p), x5, x6, x7, x8, none] ∧ Ex H H' ∧ H' c = some (.lst (cs.map V.int)) ∧ H' p = some (.lst ws) ∧ All2 (RowAt H') ws R ∧ R.length ≤ 2 * i ∧ (∀ r ∈ R, RowOk r) ∧ ∃ D : List Rw, D.length ≤ i ∧ ∀ r ∈ R, r ∈ D) ?_ ?_ ?_ ?_⟩
    · exact ⟨_, _, _, _, [], [], rfl, e2, hc2, upd_same, All2.nil, Nat.zero_le _, by simp, [], Nat.zero_le _, by simp⟩
    · rintro i σ' H' _ ⟨x5, x6, x7, x8, ws, R, rfl, e3, h3, _⟩
      exact sq_of h3
    · rintro i v σ' H' H'' hi ⟨x5, x6, x7, x8, ws, R, rfl, e3, h3, hw, hA, l1, l2, D, d1, d2⟩ ⟨rfl, gv⟩
      obtain ⟨cv, rfl, _, _⟩ := get_int gv
      have hi64 : i < 64 := by
        rw [List.length_map] at hi
        omega
      refine ⟨_, rfl, cv, 10, 10, rfl, ⟨by decide, by decide⟩, ⟨by decide, by decide⟩, fun pf H4 fs e4 hf lf bf => ?_⟩
      obtain ⟨v0, g0, m0⟩ := at_10 lf 0 (by decide)
      obtain ⟨v1, g1, m1⟩ := at_10 lf 1 (by decide)
      obtain ⟨v2, g2, m2⟩ := at_10 lf 2 (by decide)
      obtain ⟨v9, g9, m9⟩ := at_10 lf 9 (by decide)
      obtain ⟨c39, E39⟩ := cut_39 lf bf
      have b0 := bf v0 m0
      refine ⟨_, rfl, pf, _, _, _, rfl, rfl, sq_of hf, g0, _, _, rfl, rfl, (by show (0 : Int) < 4; decide), _, _, rfl, rfl, ?_⟩
      refine ⟨fun σ' H' => ∃ ow : Int, σ' = [some (.ref a), some (.int st), some (.ref b), some (.ref c), some (.ref p), some (.int cv), some (.ref pf), some (.int ow), x8, none] ∧ 1 ≤ ow ∧ H' = H4, ?_, ?_⟩
      · refine ⟨_, rfl, pf, _, _, _, rfl, rfl, sq_of hf, g1, rfl, _, rfl, ite2 (fun _ => ?_) (fun _ => ⟨_, rfl, by omega, rfl⟩)⟩
        refine ⟨_, rfl, _, rfl, _, _, rfl, rfl, ⟨by decide, by decide, by decide⟩, _, _, rfl, rfl, (by show (0 : Int) < 10 ^ 9; decide), _, _, rfl, rfl, _, rfl, ?_, rfl⟩
        have := Int.emod_nonneg (if cv < 0 then -cv else cv) (show (10 : Int) ^ 9 ≠ 0 by decide)
        omega
      rintro σ' Hx ⟨ow, rfl, ho, rfl⟩
      refine ⟨_, rfl, _, rfl, _, rfl, _, rfl, pf, _, rfl, sq_of hf, fun p5 n5 => ?_⟩
      rw [c39]
      have e5 := Ex.new (o := .lst (((fs.drop 3).take 6).map V.int)) n5
      refine ⟨b, p5, xs, _, rfl, ex_t ((e3.trans e4).trans e5) hb, sq_of upd_same, E6, E39, fun p6 H6 zs e6 h6 Ez => ?_⟩
      refine ⟨fun σ' H' => ∃ (pm : Addr) (zs : List Int), σ' = [some (.ref a), some (.int st), some (.ref b), some (.ref c), some (.ref p), some (.int cv), some (.ref pf), some (.int ow), some (.ref pm), none] ∧ Ex Hx H' ∧ H' pm = some (.tup (zs.map V.int)) ∧ EarL zs, ?_, ?_⟩
      · have hf6 := e6 _ _ (e5 _ _ hf)
        refine ⟨_, rfl, pf, _, _, _, rfl, rfl, sq_of hf6, g2, _, _, rfl, rfl, _, rfl, ite2 (fun _ => ?_) (fun _ => ⟨p6, zs, rfl, e5.trans e6, h6, Ez⟩)⟩
        refine ⟨_, rfl, _, rfl, _, rfl, pf, _, rfl, sq_of hf6, fun p7 n7 => ?_⟩
        rw [c39]
        have e7 := Ex.new (o := .lst (((fs.drop 3).take 6).map V.int)) n7
        refine ⟨_, rfl, pf, _, _, _, rfl, rfl, sq_of (e7 _ _ hf6), g9, ?_⟩
        exact ⟨p7, _, _, rfl, sq_of upd_same, E39, fun p8 H8 ys e8 h8 Ey => ⟨p8, ys, rfl, ((e5.trans e6).trans e7).trans e8, h8, Ey⟩⟩
      clear h6 Ez e6 e5 n5
      rintro σ' H5 ⟨pm, zs, rfl, e5, hm, Ez⟩
      have f5 := e4.trans e5
      have hw5 := f5 _ _ hw
      refine ⟨_, rfl, .inl ⟨rfl, _, SqL.of hw5⟩, _, rfl, _, rfl, (by show 2 ≤ sizeLine; decide), fun pt nt => ?_⟩
      have et := Ex.new (o := .tup [.int ow, .ref pm]) nt
      have f6 := f5.trans et
      have hw6 := f6 _ _ hw
      have hA6 := All2.mono stay_row f6 hA
      have hr : RowAt (upd H5 pt (.tup [.int ow, .ref pm])) (.ref pt) (ow, zs) := ⟨pt, pm, rfl, upd_same, et _ _ hm⟩
      have hA7 := (All2.upd (o := .lst (ws ++ [.ref pt])) stay_row hw6 hA6).snoc (stay_row.upd hw6 hr)
      have ok7 : ∀ r ∈ R ++ [(ow, zs)], RowOk r := fun r hr => by
        rcases List.mem_append.mp hr with m | m
        · exact l2 r m
        · rw [List.mem_singleton.mp m]
          exact ⟨ho, Ez⟩
      have D7 : ∀ r ∈ R ++ [(ow, zs)], r ∈ D ++ [(ow, zs)] := fun r hr => by
        rcases List.mem_append.mp hr with m | m
        · exact List.mem_append_left _ (d2 r m)
        · exact List.mem_append_right _ m
      have f7 : Ex H (upd (upd H5 pt (.tup [.int ow, .ref pm])) p (.lst (ws ++ [.ref pt]))) := Ex.mut (e3.trans f6) nH
      have cp : c ≠ p := by
        intro z
        rw [z] at hc
        rw [hc] at np
        cases np
      have hc7 : (upd (upd H5 pt (.tup [.int ow, .ref pm])) p (.lst (ws ++ [.ref pt]))) c = some (.lst (cs.map V.int)) := by
        rw [upd_ne cp]
        exact f6 _ _ h3
      have lw : ws.length ≤ 128 := by
        rw [hA.1]
        omega
      refine ⟨p, _, _, rfl, rfl, hw6, sz_lt (by omega), ?_⟩
      have hf7 : (upd (upd H5 pt (.tup [.int ow, .ref pm])) p (.lst (ws ++ [.ref pt]))) pf = some (.lst (fs.map V.int)) := by
        have hfp : pf ≠ p := by
          rintro rfl
          have z := hw5
          rw [e5 _ _ hf] at z
          have z' : fs.map V.int = ws := by injection (Option.some.inj z)
          cases ws with
          | nil =>
            have : fs.length = 0 := by
              rw [← List.length_map (f := V.int), z']
              rfl
            omega
          | cons w ws' =>
            obtain ⟨t, _, ew, _⟩ := hA.2 0 w _ rfl (List.getElem?_eq_getElem (by rw [← hA.1]; simp))
            cases fs with
            | nil => cases z'
            | cons f fs' =>
              rw [ew] at z'
              cases z'
        rw [upd_ne hfp]
        exact et _ _ (e5 _ _ hf)
      refine ⟨_, rfl, pf, _, _, _, rfl, rfl, sq_of hf7, g1, rfl, _, rfl, ite2 (fun _ => ?_) (fun _ => ?_)⟩
      · obtain ⟨w0, gw0⟩ : ∃ w0, (ws ++ [V.ref pt])[0]? = some w0 := by
          cases ws with
          | nil => exact ⟨_, rfl⟩
          | cons w _ => exact ⟨w, rfl⟩
        obtain ⟨r0, gr0, R0⟩ := hA7.get gw0
        refine ⟨_, rfl, .inl ⟨rfl, _, SqL.of upd_same⟩, _, rfl, p, _, _, w0, rfl, rfl, sq_of upd_same, at_of (j := 0) rfl gw0, p, _, _, rfl, rfl, upd_same, sz_lt (by rw [List.length_append]; show ws.length + 1 < 100000; omega), ?_⟩
        refine ⟨_, _, _, _, _, _, rfl, Ex.mut f7 nH, by rw [upd_ne cp]; exact hc7, upd_same, (All2.upd stay_row upd_same hA7).snoc (stay_row.upd upd_same R0), ?_, ?_, D ++ [(ow, zs)], by simpa using d1, ?_⟩
        · rw [List.length_append, List.length_append]
          simp only [List.length_cons, List.length_nil]
          omega
        · intro r hr
          rcases List.mem_append.mp hr with m | m
          · exact ok7 r m
          · rw [List.mem_singleton.mp m]
            exact ok7 _ (List.mem_of_getElem? gr0)
        · intro r hr
          rcases List.mem_append.mp hr with m | m
          · exact D7 r m
          · rw [List.mem_singleton.mp m]
            exact D7 _ (List.mem_of_getElem? gr0)
      · refine ⟨_, _, _, _, _, _, rfl, f7, hc7, upd_same, hA7, ?_, ok7, D ++ [(ow, zs)], by simpa using d1, D7⟩
        rw [List.length_append]
        simp only [List.length_cons, List.length_nil]
        omega
    · rintro σ' H' ⟨x5, x6, x7, x8, ws, R, rfl, e3, _, hw, hA, l1, l2, D, d1, d2⟩
      rw [List.length_map] at l1 d1
      exact ⟨_, rfl, q p H' ws R nH e3 hw hA ⟨by omega, l2, D, by omega, d2⟩⟩
/-! _law_ear -/

theorem cut_to (xs : List V) (n : Nat) : cutV xs none (some (n : Int)) = xs.take n := by
  unfold cutV
  rw [HT.sIx_none, show HT.sIx xs.length xs.length (some (n : Int)) = min n xs.length from HT.sIx_nat xs.length xs.length n]
  simp [List.take_eq_take_iff]
theorem six_of {xs : List Int} (hl : (xs.length : Int) = 7) (hb : ∀ x ∈ xs, 0 ≤ x ∧ x < 10) : cutV (xs.map V.int) none (some 6) = (xs.take 6).map V.int ∧ EarL (xs.take 6) ∧ ∃ v, atI (xs.map V.int) 6 = some (.int v) := by
  refine ⟨?_, ⟨by rw [List.length_take]; omega, fun x hx => ?_⟩, ?_⟩
  · rw [List.map_take]
    exact cut_to _ 6
  · have := hb x (List.mem_of_mem_take hx)
    omega
  · have h6 : 6 < xs.length := by omega
    exact ⟨xs[6], at_of (j := 6) rfl (by rw [List.getElem?_map, List.getElem?_eq_getElem h6]; rfl)⟩
def sp_ear (K : PySem.W.Frag) : Sp := fun vs H Q _ => ∃ c : Int, vs = [.int c] ∧ ∀ (p : Addr) (H' : Hp) (zs : List Int), Ex H H' → H' p = some (.tup (zs.map V.int)) → EarL zs → Q (.ref p) H'
theorem ok_ear (T : Txt K mg) : FnOk P w K mg base CX0 2 T.f_ear T.fd_ear ["_law_cell_here"] (sp_ear K) := by
  refine T.F_ear.ok sc_ear (fun vs H Q E h => ?_) (fun cdv A outer s H vs Q E hr h => ?_)

  · obtain ⟨c, rfl, _⟩ := h
    rfl
  · obtain ⟨c, rfl, q⟩ := h
    refine ⟨_, (pss_cons (ps_set (i := 1) sc_ear.nd rfl (Or.inl rfl) (pe_call (ok_row T) (hr.mono (by decide)) (by rfl) T.g_row T.F_row.kp T.b_row .nil pass0 (pa_cons (pv 0) (pa_cons pe_int (pa_cons pe_int pa_nil)))))
      (pss_one (ps_ret (pe_call (ok_ear_by T) (hr.mono (by decide)) (by rfl) T.g_ear_by T.F_ear_by.kp T.b_ear_by .nil pass0 (pa_cons (pe_slice sl_list (pv 1) po_none (po_some pe_int)) (pa_cons (pe_ix ix_list (pv 1) pe_int (fun _ _ => rfl)) pa_nil)))))), ?_⟩
    refine ⟨_, rfl, c, 7, 10, rfl, ⟨by decide, by decide⟩, ⟨by decide, by decide⟩, fun p1 H1 xs e1 h1 hl hb => ?_⟩
    obtain ⟨c6, E6, v, hv⟩ := six_of hl hb
    refine ⟨_, rfl, 6, rfl, p1, _, rfl, sq_of h1, fun p2 n2 => ?_⟩
    have e2 : Ex H1 (upd H1 p2 (.lst (cutV (xs.map V.int) none (some 6)))) := Ex.new n2
    refine ⟨_, rfl, p1, _, 6, _, rfl, rfl, sq_of (e2 _ _ h1), hv, ?_⟩
    exact ⟨p2, xs.take 6, v, rfl, sq_of (by rw [upd_same, c6]), E6, fun p H' zs e3 h3 E3 => q p H' zs ((e1.trans e2).trans e3) h3 E3⟩
/-! _law_whole -/

def sp_whole (K : PySem.W.Frag) : Sp := fun vs H Q _ => ∃ i : Int, vs = [.int i] ∧ Q (.bl true) H
theorem ok_whole (T : Txt K mg) : FnOk P w K mg base CX0 1 T.f_whole T.fd_whole ["_law_found"] (sp_whole K) := by
  refine T.F_whole.ok sc_whole (fun vs H Q E h => ?_) (fun cdv A outer s H vs Q E hr h => ?_)

  · obtain ⟨i, rfl, _⟩ := h
    rfl
  · obtain ⟨i, rfl, q⟩ := h
    refine ⟨_, (pss_one (ps_ret (pe_and (pe_callB call_isi (by rfl) T.m_isinstance (by decide +kernel) (pa_cons (pv 0) (pa_cons (pe_bltn (v := .ty "int") (by rfl) T.m_int (by decide +kernel) rfl) pa_nil))) (pe_one (pe_not (pe_callB call_isi (by rfl) T.m_isinstance (by decide +kernel) (pa_cons (pv 0) (pa_cons (pe_bltn (v := .ty "bool") (by rfl) T.m_bool (by decide +kernel) rfl) pa_nil)))))))), ?_⟩
    refine ⟨_, rfl, _, _, _, _, true, rfl, .ty _, .base (.int i), kit_ty (by decide +kernel), true, rfl, iteT ?_⟩
    exact ⟨_, rfl, _, _, _, _, false, rfl, .ty _, .base (.int i), kit_ty (by decide +kernel), false, rfl, q⟩
/-! law -/

def sp_law (K : PySem.W.Frag) : Sp := fun vs H Q _ => ∃ (a : Addr) (ns : List Int), vs = [.ref a] ∧ SqL K H a (ns.map V.int) ∧ ns.length ≤ 63 ∧ ∀ H', Q (.bl true) H'
theorem ok_law (T : Txt K mg) : FnOk P w K mg base CX0 5 T.f_law T.fd_law ["_law_script"] (sp_law K) := by
  refine T.F_law.ok sc_law (fun vs H Q E h => ?_) (fun cdv A outer s H vs Q E hr h => ?_)

  · obtain ⟨a, ns, rfl, _⟩ := h
    rfl
  · obtain ⟨a, ns, rfl, hS, _, q⟩ := h
    refine ⟨_, (pss_cons (ps_set (i := 1) sc_law.nd rfl (Or.inl rfl) (pe_call (ok_space T) (hr.mono (by decide)) (by rfl) T.g_space T.F_space.kp T.b_space .nil pass0 (pa_cons (pe_call (ok_cell T) (hr.mono (by decide)) (by rfl) T.g_cell T.F_cell.kp T.b_cell .nil pass0 (pa_cons (pv 0) (pa_cons pe_int pa_nil))) pa_nil)))
      (pss_cons (ps_set (i := 2) sc_law.nd rfl (Or.inl rfl) (pe_call (ok_fitting T) (hr.mono (by decide)) (by rfl) T.g_fitting T.F_fitting.kp T.b_fitting .nil pass0 (pa_cons (pe_call (ok_table T) (hr.mono (by decide)) (by rfl) T.g_table T.F_table.kp T.b_table .nil pass0 (pa_cons (pv 0) (pa_cons pe_int (pa_cons (pe_call (ok_ear T) (hr.mono (by decide)) (by rfl) T.g_ear T.F_ear.kp T.b_ear .nil pass0 (pa_cons (pe_call (ok_cell T) (hr.mono (by decide)) (by rfl) T.g_cell T.F_cell.kp T.b_cell .nil pass0 (pa_cons (pv 0) (pa_cons pe_int pa_nil))) pa_nil)) pa_nil)))) (pa_cons (pv 1) pa_nil))))
      (pss_cons (ps_if (pt_cmpR (op_eqD hr.units) (pv 2) (pe_lst pa_nil) (nomark _)) (pss_one (ps_ret (pe_cmpR op_isN (pe_call (ok_passing T) (hr.mono (by decide)) (by rfl) T.g_passing T.F_passing.kp T.b_passing .nil pass0 (pa_cons pe_int (pa_cons (pe_call (ok_ear T) (hr.mono (by decide)) (by rfl) T.g_ear T.F_ear.kp T.b_ear .nil pass0 (pa_cons (pe_call (ok_cell T) (hr.mono (by decide)) (by rfl) T.g_cell T.F_cell.kp T.b_cell .nil pass0 (pa_cons (pv 0) (pa_cons pe_int pa_nil))) pa_nil)) (pa_cons (pe_lst pa_nil) (pa_cons (pv 1) pa_nil))))) pe_non (nomark _)))) pss_nil)
      (pss_cons (ps_asg (pe_ix ix_list (pv 2) (pe_op op_mod (pe_call (ok_cell T) (hr.mono (by decide)) (by rfl) T.g_cell T.F_cell.kp T.b_cell .nil pass0 (pa_cons (pv 0) (pa_cons pe_int pa_nil))) (pe_callB call_len_seq (by rfl) T.m_len (by decide +kernel) (pa_cons (pv 2) pa_nil))) (fun _ _ => rfl)) (pg_tup rfl (pgs_cons (pg_name (i := 3) sc_law.nd rfl (Or.inl rfl)) (pgs_cons (pg_name (i := 4) sc_law.nd rfl (Or.inl rfl)) pgs_nil))))
      (pss_cons (ps_set (i := 5) sc_law.nd rfl (Or.inl rfl) (pe_call (ok_torn_by T) (hr.mono (by decide)) (by rfl) T.g_torn_by T.F_torn_by.kp T.b_torn_by .nil pass0 (pa_cons (pv 4) (pa_cons (pe_call (ok_row T) (hr.mono (by decide)) (by rfl) T.g_row T.F_row.kp T.b_row .nil pass0 (pa_cons (pe_call (ok_cell T) (hr.mono (by decide)) (by rfl) T.g_cell T.F_cell.kp T.b_cell .nil pass0 (pa_cons (pv 0) (pa_cons pe_int pa_nil))) (pa_cons pe_int (pa_cons pe_int pa_nil)))) (pa_cons (pe_op op_mod (pe_op op_fdiv (pe_call (ok_cell T) (hr.mono (by decide)) (by rfl) T.g_cell T.F_cell.kp T.b_cell .nil pass0 (pa_cons (pv 0) (pa_cons pe_int pa_nil))) pe_int) (pe_op op_add (pv 1) pe_int)) pa_nil)))))
      (pss_cons (ps_set (i := 6) sc_law.nd rfl (Or.inl rfl) (pe_call (ok_passing T) (hr.mono (by decide)) (by rfl) T.g_passing T.F_passing.kp T.b_passing .nil pass0 (pa_cons (pv 3) (pa_cons (pv 5) (pa_cons (pe_callTy call_list_of (by rfl) T.m_list (by decide +kernel) (pa_cons (pv 2) pa_nil)) (pa_cons (pv 1) pa_nil))))))
      (pss_cons (ps_if (pt_cmpR op_isN (pv 6) pe_non (nomark _)) (pss_one (ps_ret pe_bl)) pss_nil)
      (pss_cons (ps_if (PW.pt (pw_or (pt_not (pt_val (pe_callB call_isi (by rfl) T.m_isinstance (by decide +kernel) (pa_cons (pv 6) (pa_cons (pe_bltn (v := .ty "tuple") (by rfl) T.m_tuple (by decide +kernel) rfl) pa_nil))))) (pw_or (pt_not (pt_val (pe_call (ok_whole T) (hr.mono (by decide)) (by rfl) T.g_whole T.F_whole.kp T.b_whole .nil pass0 (pa_cons (pe_ix ix_tup (pv 6) pe_int (fun _ _ => rfl)) pa_nil)))) (pw_or1 (pt_cmpR op_eq (pe_ix ix_tup (pv 6) pe_int (fun _ _ => rfl)) (pv 3) (nomark _)))))) (pss_one (ps_ret pe_bl)) pss_nil)
      (pss_one (ps_ret (pe_cmpR op_gt (pe_ix ix_tup (pv 6) pe_int (fun _ _ => rfl)) (pe_op op_sub (pv 1) (pe_call (ok_tears T) (hr.mono (by decide)) (by rfl) T.g_tears T.F_tears.kp T.b_tears .nil pass0 (pa_cons (pv 4) (pa_cons (pv 5) pa_nil)))) (nomark _)))))))))))), ?_⟩
    refine ⟨_, rfl, a, ns, 3, rfl, hS, by decide, fun c0 => ⟨c0, rfl, fun rm r0 r1 => ?_⟩⟩
    refine ⟨_, rfl, _, rfl, a, ns, 0, rfl, hS, by decide, fun c1 => ⟨c1, rfl, fun p1 H1 xs e1 h1 E1 => ?_⟩⟩
    refine ⟨a, p1, ns, xs, 4, rfl, ex_l e1 hS, ⟨by decide, by decide⟩, st_of h1, E1, fun p2 H2 ws R n2 e2 h2 hA tb => ?_⟩
    refine ⟨_, rfl, p2, ws, R, rm, rfl, h2, hA, tb, fun p3 H3 us S n3 e3 h3 hB tc fS => ?_⟩
    have f3 := (e1.trans e2).trans e3
    have g0 : ∀ {H'}, Ex H3 H' → SqL K H' a (ns.map V.int) := fun e => ex_l (f3.trans e) hS
    refine ⟨_, rfl, Nat.zero_le _, fun pn nn => ?_⟩
    have e4 := Ex.new (o := .lst []) nn
    have hB4 := All2.mono stay_row e4 hB
    have h34 := e4 _ _ h3
    refine eq_rows (K := K) (S := []) h34 upd_same hB4 All2.nil ⟨_, rfl, ?_⟩
    by_cases cE : S = []
    · rw [decide_eq_true cE]
      refine iteT ?_
      refine ⟨_, rfl, a, ns, 2, rfl, g0 e4, by decide, fun c2 => ⟨c2, rfl, fun p5 H5 ys e5 h5 E5 => ?_⟩⟩
      refine ⟨Nat.zero_le _, fun p6 n6 => ⟨_, rfl, p5, p6, ys, 1, rm, [], [], rfl, st_of ((Ex.new n6) _ _ h5), E5, upd_same, All2.nil, Nat.zero_le _, by simp, fun _ H7 _ => ⟨rfl, ?_⟩, fun w hw => nomatch hw⟩⟩
      rw [decide_eq_true rfl]
      exact q H7
    rw [decide_eq_false cE]
    refine iteF ?_
    have lS : 0 < S.length := List.length_pos_iff.mpr cE
    have lu := hB4.1
    refine ⟨_, rfl, _, rfl, a, ns, 2, rfl, g0 e4, by decide, fun c2 => ⟨_, rfl, p3, us, rfl, .inl (sq_of h34), _, _, rfl, rfl, (by show (0 : Int) < (us.length : Int); omega), ?_⟩⟩
    have hm0 := Int.emod_nonneg c2 (show (us.length : Int) ≠ 0 by omega)
    have hm1 := Int.emod_lt_of_pos c2 (show (0 : Int) < (us.length : Int) by omega)
    have hjl : (c2 % (us.length : Int)).toNat < us.length := by omega
    have gv := List.getElem?_eq_getElem hjl
    obtain ⟨r, gr, rr⟩ := hB4.get gv
    obtain ⟨t, m, ev, k1, k2⟩ := rr
    have mr := List.mem_of_getElem? gr
    have Er := (tc.ok r mr).2
    refine ⟨p3, us, _, _, rfl, rfl, sq_of h34, at_of (j := (c2 % (us.length : Int)).toNat) (by omega) gv, ?_⟩
    rw [ev]
    refine gTwo_at k1 ?_
    refine ⟨_, rfl, _, rfl, a, ns, 1, rfl, g0 e4, by decide, fun c3 => ⟨c3, 14, 10, rfl, ⟨by decide, by decide⟩, ⟨by decide, by decide⟩, fun p5 H5 fs e5 h5 _ _ => ?_⟩⟩
    refine ⟨_, rfl, a, ns, 2, rfl, g0 (e4.trans e5), by decide, fun c4 => ⟨_, _, rfl, rfl, ⟨by decide, by decide⟩, _, rfl, _, _, rfl, rfl, _, _, rfl, rfl, (by show (0 : Int) < rm + 1; omega), ?_⟩⟩
    refine ⟨m, p5, r.2, fs, _, rfl, st_of (e5 _ _ k2), Er, sq_of h5, Int.emod_nonneg _ (by omega), fun p6 H6 zs e6 h6 Ez lz tz => ?_⟩
    have f6 := e5.trans e6
    refine ⟨_, rfl, _, rfl, _, rfl, p3, us, rfl, .inl (sq_of (f6 _ _ h34)), fun p7 n7 => ?_⟩
    have e7 := Ex.new (o := .lst us) n7
    have f7 := f6.trans e7
    have g6 : ∀ {H'}, Ex (upd H6 p7 (.lst us)) H' → TpI K H' p6 zs := fun e => st_of (e _ _ (e7 _ _ h6))
    have g2 : ∀ {H'}, Ex (upd H6 p7 (.lst us)) H' → TpI K H' m r.2 := fun e => st_of (e _ _ (f7 _ _ k2))
    refine ⟨_, rfl, p6, p7, zs, r.1, rm, us, S, rfl, g6 (Ex.refl _), Ez, upd_same, All2.mono stay_row f7 hB4, by have := tc.len; omega, fun s hs => (tc.ok s hs).2, fun _ H8 e8 => ?_, fun w hw low v H8 e8 hv => ?_⟩
    · exact ⟨_, rfl, rfl, _, rfl, iteT (q H8)⟩
    · obtain ⟨s, hs, rfl⟩ := List.mem_map.mp hw
      obtain ⟨ms, cs⟩ := List.mem_filter.mp hs
      rw [Bool.and_eq_true, Bool.not_eq_true', decide_eq_false_iff_not, decide_eq_true_eq] at cs
      have Es := (tc.ok s ms).2
      obtain ⟨t8, m8, rfl, w1, w2⟩ := hv
      refine ⟨_, rfl, rfl, _, rfl, iteF ?_⟩
      refine ⟨_, rfl, _, _, _, _, true, rfl, .ty _, tyx_tup (K := K) (st_of w1), kit_ty (by decide +kernel), true, rfl, iteF ?_⟩
      refine ⟨_, rfl, t8, _, _, _, rfl, rfl, st_of w1, at_of (j := 0) rfl rfl, _, rfl, true, rfl, iteF ?_⟩
      refine ⟨_, rfl, t8, _, _, _, rfl, rfl, st_of w1, at_of (j := 1) rfl rfl, _, rfl, rfl, _, rfl, ?_⟩
      rw [decide_eq_false (fun z => cs.1 (V.int.inj z))]
      refine iteF ?_
      have hl : r.2.length = zs.length := by rw [Er.1, Ez.1]
      refine ⟨_, rfl, t8, _, _, _, rfl, rfl, st_of w1, at_of (j := 0) rfl rfl, _, rfl, _, rfl, _, rfl, m, p6, r.2, zs, rfl, g2 e8, g6 e8, hl, by rw [Er.1]; decide, fun H9 e9 => ⟨_, _, rfl, rfl, _, _, rfl, rfl, ?_⟩⟩
      have k := fS r mr s ms (fun z => cs.1 z.symm)
      have t1 := tear_mono s.2 r.2 zs hl lz
      have t2 := tear_tri r.2 zs s.2 hl (by rw [Ez.1, Es.1])
      have ek : V.bl (decide (rm - tearI r.2 zs < tearI zs s.2)) = .bl true := by rw [decide_eq_true (by omega)]
      show Q (V.bl (decide (rm - tearI r.2 zs < tearI zs s.2))) H9
      rw [ek]
      exact q H9
end
theorem all_mk {l : PySem.W.OpenLaw} {w : World} {K : PySem.W.Frag} {h : Heap} {mg : Str → Option Value} {fa f0 f1 f2 f3 f4 f5 f6 f7 f8 f9 f10 f11 f12 f13 f14 f15 : Addr} (X : K.In h) (G : h.Ns mainGlobals mg) (hfa : mg "law" = some (.ref fa))
    {od0 an0 od1 an1 od2 an2 od3 an3 od4 an4 od5 an5 od6 an6 od7 an7 od8 an8 od9 an9 od10 an10 od11 an11 od12 an12 od13 an13 od14 an14 od15 an15 : Option Addr} {sl0 sl1 sl2 sl3 sl4 sl5 sl6 sl7 sl8 sl9 sl10 sl11 sl12 sl13 sl14 sl15 : Array (Option Value)} {oc0 kV0 dc0 pm0 cd0 ct0 oc1 kV1 dc1 pm1 cd1 ct1 oc2 kV2 dc2 pm2 cd2 ct2 oc3 kV3 dc3 pm3 cd3 ct3 oc4 kV4 dc4 pm4 cd4 ct4 oc5 kV5 dc5 pm5 cd5 ct5 oc6 kV6 dc6 pm6 cd6 ct6 oc7 kV7 dc7 pm7 cd7 ct7 oc8 kV8 dc8 pm8 cd8 ct8 oc9 kV9 dc9 pm9 cd9 ct9 oc10 kV10 dc10 pm10 cd10 ct10 oc11 kV11 dc11 pm11 cd11 ct11 oc12 kV12 dc12 pm12 cd12 ct12 oc13 kV13 dc13 pm13 cd13 ct13 oc14 kV14 dc14 pm14 cd14 ct14 oc15 kV15 dc15 pm15 cd15 ct15 : Value}
    (a0 : PySem.W.nsIn K mainGlobals "_law_space" = some (some (.ref f0))) (l0 : K.lookup f0 = some ⟨oc0, od0, .func (PySem.W.fnOf "_law_space" "_law_space" (defArgs s_space) (defBody s_space) (defScope s_space) .none kV0 dc0 pm0 an0 cd0 ct0), sl0⟩) (c0 : PySem.W.codeIn K cd0 "_law_space" = true) (k0 : PySem.W.keepIn K (.ref f0) = true)
    (a1 : PySem.W.nsIn K mainGlobals "_law_tears" = some (some (.ref f1))) (l1 : K.lookup f1 = some ⟨oc1, od1, .func (PySem.W.fnOf "_law_tears" "_law_tears" (defArgs s_tears) (defBody s_tears) (defScope s_tears) .none kV1 dc1 pm1 an1 cd1 ct1), sl1⟩) (c1 : PySem.W.codeIn K cd1 "_law_tears" = true) (k1 : PySem.W.keepIn K (.ref f1) = true)
    (a2 : PySem.W.nsIn K mainGlobals "_law_far" = some (some (.ref f2))) (l2 : K.lookup f2 = some ⟨oc2, od2, .func (PySem.W.fnOf "_law_far" "_law_far" (defArgs s_far) (defBody s_far) (defScope s_far) .none kV2 dc2 pm2 an2 cd2 ct2), sl2⟩) (c2 : PySem.W.codeIn K cd2 "_law_far" = true) (k2 : PySem.W.keepIn K (.ref f2) = true)
    (a3 : PySem.W.nsIn K mainGlobals "_law_fitting" = some (some (.ref f3))) (l3 : K.lookup f3 = some ⟨oc3, od3, .func (PySem.W.fnOf "_law_fitting" "_law_fitting" (defArgs s_fitting) (defBody s_fitting) (defScope s_fitting) .none kV3 dc3 pm3 an3 cd3 ct3), sl3⟩) (c3 : PySem.W.codeIn K cd3 "_law_fitting" = true) (k3 : PySem.W.keepIn K (.ref f3) = true)
    (a4 : PySem.W.nsIn K mainGlobals "_law_torn_by" = some (some (.ref f4))) (l4 : K.lookup f4 = some ⟨oc4, od4, .func (PySem.W.fnOf "_law_torn_by" "_law_torn_by" (defArgs s_torn_by) (defBody s_torn_by) (defScope s_torn_by) .none kV4 dc4 pm4 an4 cd4 ct4), sl4⟩) (c4 : PySem.W.codeIn K cd4 "_law_torn_by" = true) (k4 : PySem.W.keepIn K (.ref f4) = true)
    (a5 : PySem.W.nsIn K mainGlobals "lacks" = some (some (.ref f5))) (l5 : K.lookup f5 = some ⟨oc5, od5, .func (PySem.W.fnOf "lacks" "lacks" (defArgs s_lacks) (defBody s_lacks) (defScope s_lacks) .none kV5 dc5 pm5 an5 cd5 ct5), sl5⟩) (c5 : PySem.W.codeIn K cd5 "lacks" = true) (k5 : PySem.W.keepIn K (.ref f5) = true)
    (a6 : PySem.W.nsIn K mainGlobals "joint" = some (some (.ref f6))) (l6 : K.lookup f6 = some ⟨oc6, od6, .func (PySem.W.fnOf "joint" "joint" (defArgs s_joint) (defBody s_joint) (defScope s_joint) .none kV6 dc6 pm6 an6 cd6 ct6), sl6⟩) (c6 : PySem.W.codeIn K cd6 "joint" = true) (k6 : PySem.W.keepIn K (.ref f6) = true)
    (a7 : PySem.W.nsIn K mainGlobals "passing" = some (some (.ref f7))) (l7 : K.lookup f7 = some ⟨oc7, od7, .func (PySem.W.fnOf "passing" "passing" (defArgs s_passing) (defBody s_passing) (defScope s_passing) .none kV7 dc7 pm7 an7 cd7 ct7), sl7⟩) (c7 : PySem.W.codeIn K cd7 "passing" = true) (k7 : PySem.W.keepIn K (.ref f7) = true)
    (a8 : PySem.W.nsIn K mainGlobals "_law_cell" = some (some (.ref f8))) (l8 : K.lookup f8 = some ⟨oc8, od8, .func (PySem.W.fnOf "_law_cell" "_law_cell" (defArgs s_cell) (defBody s_cell) (defScope s_cell) .none kV8 dc8 pm8 an8 cd8 ct8), sl8⟩) (c8 : PySem.W.codeIn K cd8 "_law_cell" = true) (k8 : PySem.W.keepIn K (.ref f8) = true)
    (a9 : PySem.W.nsIn K mainGlobals "_law_row" = some (some (.ref f9))) (l9 : K.lookup f9 = some ⟨oc9, od9, .func (PySem.W.fnOf "_law_row" "_law_row" (defArgs s_row) (defBody s_row) (defScope s_row) .none kV9 dc9 pm9 an9 cd9 ct9), sl9⟩) (c9 : PySem.W.codeIn K cd9 "_law_row" = true) (k9 : PySem.W.keepIn K (.ref f9) = true)
    (a10 : PySem.W.nsIn K mainGlobals "_law_near" = some (some (.ref f10))) (l10 : K.lookup f10 = some ⟨oc10, od10, .func (PySem.W.fnOf "_law_near" "_law_near" (defArgs s_near) (defBody s_near) (defScope s_near) .none kV10 dc10 pm10 an10 cd10 ct10), sl10⟩) (c10 : PySem.W.codeIn K cd10 "_law_near" = true) (k10 : PySem.W.keepIn K (.ref f10) = true)
    (a11 : PySem.W.nsIn K mainGlobals "_law_ear_by" = some (some (.ref f11))) (l11 : K.lookup f11 = some ⟨oc11, od11, .func (PySem.W.fnOf "_law_ear_by" "_law_ear_by" (defArgs s_ear_by) (defBody s_ear_by) (defScope s_ear_by) .none kV11 dc11 pm11 an11 cd11 ct11), sl11⟩) (c11 : PySem.W.codeIn K cd11 "_law_ear_by" = true) (k11 : PySem.W.keepIn K (.ref f11) = true)
    (a12 : PySem.W.nsIn K mainGlobals "_law_table" = some (some (.ref f12))) (l12 : K.lookup f12 = some ⟨oc12, od12, .func (PySem.W.fnOf "_law_table" "_law_table" (defArgs s_table) (defBody s_table) (defScope s_table) .none kV12 dc12 pm12 an12 cd12 ct12), sl12⟩) (c12 : PySem.W.codeIn K cd12 "_law_table" = true) (k12 : PySem.W.keepIn K (.ref f12) = true)
    (a13 : PySem.W.nsIn K mainGlobals "_law_ear" = some (some (.ref f13))) (l13 : K.lookup f13 = some ⟨oc13, od13, .func (PySem.W.fnOf "_law_ear" "_law_ear" (defArgs s_ear) (defBody s_ear) (defScope s_ear) .none kV13 dc13 pm13 an13 cd13 ct13), sl13⟩) (c13 : PySem.W.codeIn K cd13 "_law_ear" = true) (k13 : PySem.W.keepIn K (.ref f13) = true)
    (a14 : PySem.W.nsIn K mainGlobals "_law_whole" = some (some (.ref f14))) (l14 : K.lookup f14 = some ⟨oc14, od14, .func (PySem.W.fnOf "_law_whole" "_law_whole" (defArgs s_whole) (defBody s_whole) (defScope s_whole) .none kV14 dc14 pm14 an14 cd14 ct14), sl14⟩) (c14 : PySem.W.codeIn K cd14 "_law_whole" = true) (k14 : PySem.W.keepIn K (.ref f14) = true)
    (a15 : PySem.W.nsIn K mainGlobals "law" = some (some (.ref f15))) (l15 : K.lookup f15 = some ⟨oc15, od15, .func (PySem.W.fnOf "law" "law" (defArgs s_law) (defBody s_law) (defScope s_law) .none kV15 dc15 pm15 an15 cd15 ct15), sl15⟩) (c15 : PySem.W.codeIn K cd15 "law" = true) (k15 : PySem.W.keepIn K (.ref f15) = true)
    (z_sum : PySem.W.nsIn K mainGlobals "sum" = some none)
    (z_zip : PySem.W.nsIn K mainGlobals "zip" = some none)
    (z_max : PySem.W.nsIn K mainGlobals "max" = some none)
    (z_list : PySem.W.nsIn K mainGlobals "list" = some none)
    (z_tuple : PySem.W.nsIn K mainGlobals "tuple" = some none)
    (z_min : PySem.W.nsIn K mainGlobals "min" = some none)
    (z_len : PySem.W.nsIn K mainGlobals "len" = some none)
    (z_abs : PySem.W.nsIn K mainGlobals "abs" = some none)
    (z_range : PySem.W.nsIn K mainGlobals "range" = some none)
    (z_isinstance : PySem.W.nsIn K mainGlobals "isinstance" = some none)
    (z_bool : PySem.W.nsIn K mainGlobals "bool" = some none)
    (z_int : PySem.W.nsIn K mainGlobals "int" = some none)
    : ∃ fd : FuncData, (∀ (s : Shared) (v : Value), BindsTo s fd ⟨[v], []⟩ [("_law_script", v)]) ∧ ∀ base : Heap, K.In base → base.Ns mainGlobals mg → FnOk l.prog w K mg base CX0 5 fa fd ["_law_script"] (sp_law K) := by
  have e := hfa.symm.trans (PySem.W.mg_of X G a15)
  cases e
  have F0 := fun_mk (st := s_space) l0 c0 k0
  have b0 := F0.binds (ps := ["_law_cell_here"]) fun _ _ _ _ _ _ us hl => match us, hl with | [_], _ => rfl
  have F1 := fun_mk (st := s_tears) l1 c1 k1
  have b1 := F1.binds (ps := ["_law_one", "_law_other"]) fun _ _ _ _ _ _ us hl => match us, hl with | [_, _], _ => rfl
  have F2 := fun_mk (st := s_far) l2 c2 k2
  have b2 := F2.binds (ps := ["_law_one", "_law_other"]) fun _ _ _ _ _ _ us hl => match us, hl with | [_, _], _ => rfl
  have F3 := fun_mk (st := s_fitting) l3 c3 k3
  have b3 := F3.binds (ps := ["_law_rows", "_law_space_here"]) fun _ _ _ _ _ _ us hl => match us, hl with | [_, _], _ => rfl
  have F4 := fun_mk (st := s_torn_by) l4 c4 k4
  have b4 := F4.binds (ps := ["_law_ear_here", "_law_figures", "_law_many"]) fun _ _ _ _ _ _ us hl => match us, hl with | [_, _, _], _ => rfl
  have F5 := fun_mk (st := s_lacks) l5 c5 k5
  have b5 := F5.binds (ps := ["one", "other"]) fun _ _ _ _ _ _ us hl => match us, hl with | [_, _], _ => rfl
  have F6 := fun_mk (st := s_joint) l6 c6 k6
  have b6 := F6.binds (ps := ["one", "other"]) fun _ _ _ _ _ _ us hl => match us, hl with | [_, _], _ => rfl
  have F7 := fun_mk (st := s_passing) l7 c7 k7
  have b7 := F7.binds (ps := ["owner", "ear", "rows", "room"]) fun _ _ _ _ _ _ us hl => match us, hl with | [_, _, _, _], _ => rfl
  have F8 := fun_mk (st := s_cell) l8 c8 k8
  have b8 := F8.binds (ps := ["_law_script", "_law_k"]) fun _ _ _ _ _ _ us hl => match us, hl with | [_, _], _ => rfl
  have F9 := fun_mk (st := s_row) l9 c9 k9
  have b9 := F9.binds (ps := ["_law_cell_here", "_law_many", "_law_base"]) fun _ _ _ _ _ _ us hl => match us, hl with | [_, _, _], _ => rfl
  have F10 := fun_mk (st := s_near) l10 c10 k10
  have b10 := F10.binds (ps := ["_law_ear_here", "_law_figures"]) fun _ _ _ _ _ _ us hl => match us, hl with | [_, _], _ => rfl
  have F11 := fun_mk (st := s_ear_by) l11 c11 k11
  have b11 := F11.binds (ps := ["_law_figures", "_law_mode"]) fun _ _ _ _ _ _ us hl => match us, hl with | [_, _], _ => rfl
  have F12 := fun_mk (st := s_table) l12 c12 k12
  have b12 := F12.binds (ps := ["_law_script", "_law_start", "_law_base"]) fun _ _ _ _ _ _ us hl => match us, hl with | [_, _, _], _ => rfl
  have F13 := fun_mk (st := s_ear) l13 c13 k13
  have b13 := F13.binds (ps := ["_law_cell_here"]) fun _ _ _ _ _ _ us hl => match us, hl with | [_], _ => rfl
  have F14 := fun_mk (st := s_whole) l14 c14 k14
  have b14 := F14.binds (ps := ["_law_found"]) fun _ _ _ _ _ _ us hl => match us, hl with | [_], _ => rfl
  have F15 := fun_mk (st := s_law) l15 c15 k15
  have b15 := F15.binds (ps := ["_law_script"]) fun _ _ _ _ _ _ us hl => match us, hl with | [_], _ => rfl

  let T : Txt K mg := { f_space := _, fd_space := _, F_space := F0, b_space := b0, g_space := PySem.W.mg_of X G a0, f_tears := _, fd_tears := _, F_tears := F1, b_tears := b1, g_tears := PySem.W.mg_of X G a1, f_far := _, fd_far := _, F_far := F2, b_far := b2, g_far := PySem.W.mg_of X G a2, f_fitting := _, fd_fitting := _, F_fitting := F3, b_fitting := b3, g_fitting := PySem.W.mg_of X G a3, f_torn_by := _, fd_torn_by := _, F_torn_by := F4, b_torn_by := b4, g_torn_by := PySem.W.mg_of X G a4, f_lacks := _, fd_lacks := _, F_lacks := F5, b_lacks := b5, g_lacks := PySem.W.mg_of X G a5, f_joint := _, fd_joint := _, F_joint := F6, b_joint := b6, g_joint := PySem.W.mg_of X G a6, f_passing := _, fd_passing := _, F_passing := F7, b_passing := b7, g_passing := PySem.W.mg_of X G a7, f_cell := _, fd_cell := _, F_cell := F8, b_cell := b8, g_cell := PySem.W.mg_of X G a8, f_row := _, fd_row := _, F_row := F9, b_row := b9, g_row := PySem.W.mg_of X G a9, f_near := _, fd_near := _, F_near := F10, b_near := b10, g_near := PySem.W.mg_of X G a10, f_ear_by := _, fd_ear_by := _, F_ear_by := F11, b_ear_by := b11, g_ear_by := PySem.W.mg_of X G a11, f_table := _, fd_table := _, F_table := F12, b_table := b12, g_table := PySem.W.mg_of X G a12, f_ear := _, fd_ear := _, F_ear := F13, b_ear := b13, g_ear := PySem.W.mg_of X G a13, f_whole := _, fd_whole := _, F_whole := F14, b_whole := b14, g_whole := PySem.W.mg_of X G a14, f_law := _, fd_law := _, F_law := F15, b_law := b15, g_law := PySem.W.mg_of X G a15, m_sum := PySem.W.mg_none_of X G z_sum, m_zip := PySem.W.mg_none_of X G z_zip, m_max := PySem.W.mg_none_of X G z_max, m_list := PySem.W.mg_none_of X G z_list, m_tuple := PySem.W.mg_none_of X G z_tuple, m_min := PySem.W.mg_none_of X G z_min, m_len := PySem.W.mg_none_of X G z_len, m_abs := PySem.W.mg_none_of X G z_abs, m_range := PySem.W.mg_none_of X G z_range, m_isinstance := PySem.W.mg_none_of X G z_isinstance, m_bool := PySem.W.mg_none_of X G z_bool, m_int := PySem.W.mg_none_of X G z_int }
  exact ⟨_, fun s v => .of_eq rfl, fun base _ _ => ok_law T⟩
end Ear
open PySem PySem.W PyProof.Rows
set_option maxHeartbeats 0 in
theorem PySem.Challenge.cw_earmarks_k23_whole_thief_of_rows_holds : PySem.Challenge.rw_earmarks_k23_whole_thief_of_rows.Holds := by
  w_on; o_law; k_head; (case hw => w_witness2)
  k_fill
  refine L2.walk_of (l := PySem.Challenge.rw_earmarks_k23_whole_thief_of_rows) (n := 63) (k := 5) (x := "_law_script") (CX := fun _ => L2.CX0) (sp := fun w => Ear.sp_law _) rfl (by decide) rfl ⟨rfl, by decide, by decide⟩ (fun w h Y => PySem.W.kIn_of Y) ?F (fun _ _ a ns hl _ hS => ⟨a, ns, rfl, hS, hl, fun _ => rfl⟩) (fun _ _ _ _ _ h => h)
  case F =>
    intro w mg fa h KX G hmg
    refine' Ear.all_mk KX G hmg ?a0 ?l0 ?c0 ?k0 ?a1 ?l1 ?c1 ?k1 ?a2 ?l2 ?c2 ?k2 ?a3 ?l3 ?c3 ?k3 ?a4 ?l4 ?c4 ?k4 ?a5 ?l5 ?c5 ?k5 ?a6 ?l6 ?c6 ?k6 ?a7 ?l7 ?c7 ?k7 ?a8 ?l8 ?c8 ?k8 ?a9 ?l9 ?c9 ?k9 ?a10 ?l10 ?c10 ?k10 ?a11 ?l11 ?c11 ?k11 ?a12 ?l12 ?c12 ?k12 ?a13 ?l13 ?c13 ?k13 ?a14 ?l14 ?c14 ?k14 ?a15 ?l15 ?c15 ?k15 ?z_sum ?z_zip ?z_max ?z_list ?z_tuple ?z_min ?z_len ?z_abs ?z_range ?z_isinstance ?z_bool ?z_int
    (case a0 => k_is)
    (case l0 => k_is)
    (case c0 => k_is)
    (case k0 => k_is)
    (case a1 => k_is)
    (case l1 => k_is)
    (case c1 => k_is)
    (case k1 => k_is)
    (case a2 => k_is)
    (case l2 => k_is)
    (case c2 => k_is)
    (case k2 => k_is)
    (case a3 => k_is)
    (case l3 => k_is)
    (case c3 => k_is)
    (case k3 => k_is)
    (case a4 => k_is)
    (case l4 => k_is)
    (case c4 => k_is)
    (case k4 => k_is)
    (case a5 => k_is)
    (case l5 => k_is)
    (case c5 => k_is)
    (case k5 => k_is)
    (case a6 => k_is)
    (case l6 => k_is)
    (case c6 => k_is)
    (case k6 => k_is)
    (case a7 => k_is)
    (case l7 => k_is)
    (case c7 => k_is)
    (case k7 => k_is)
    (case a8 => k_is)
    (case l8 => k_is)
    (case c8 => k_is)
    (case k8 => k_is)
    (case a9 => k_is)
    (case l9 => k_is)
    (case c9 => k_is)
    (case k9 => k_is)
    (case a10 => k_is)
    (case l10 => k_is)
    (case c10 => k_is)
    (case k10 => k_is)
    (case a11 => k_is)
    (case l11 => k_is)
    (case c11 => k_is)
    (case k11 => k_is)
    (case a12 => k_is)
    (case l12 => k_is)
    (case c12 => k_is)
    (case k12 => k_is)
    (case a13 => k_is)
    (case l13 => k_is)
    (case c13 => k_is)
    (case k13 => k_is)
    (case a14 => k_is)
    (case l14 => k_is)
    (case c14 => k_is)
    (case k14 => k_is)
    (case a15 => k_is)
    (case l15 => k_is)
    (case c15 => k_is)
    (case k15 => k_is)
    (case z_sum => k_is)
    (case z_zip => k_is)
    (case z_max => k_is)
    (case z_list => k_is)
    (case z_tuple => k_is)
    (case z_min => k_is)
    (case z_len => k_is)
    (case z_abs => k_is)
    (case z_range => k_is)
    (case z_isinstance => k_is)
    (case z_bool => k_is)
    (case z_int => k_is)

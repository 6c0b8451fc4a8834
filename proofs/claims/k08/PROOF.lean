import PyProof.Rows.All
import Wide.All
import OpenK.AllK
import Wide.FinOn
import HandS.ForMost
import HandS.Evl
import HandS.Walk
import HandS.Zip
import HandS.IsInst
import HandS.Style
import HandS.FStr
import HandS.Strs
import HandS.TupAny
import HandS.Deep
import HandS.Exc
import HandS.TryOnly
import HandS.ExcOwn
import HandS.WordsExc
import KE.GoesMore
import KE.GoesEnum
import PySem.Challenge.RW_earmarks_k08_tears_between
set_option Elab.async false
set_option linter.all false
set_option maxRecDepth 100000
set_option maxHeartbeats 2000000
namespace Ear
open PySem PySem.Spec PyProof.Rows L2 Evl RZ
theorem hu65 {A : Around} {k : Nat} (r : Room k A) : A.units + 65 < cLine := by
  have := r.un
  omega
/-! ### zip(tuple, list) -/
def ItTL (K : PySem.W.Frag) (a b : Addr) : It where
  go := fun i H => ∃ (xs ys : List V) (x y : V), SqT K H a xs ∧ SqL K H b ys ∧ xs[i]? = some x ∧ ys[i]? = some y
  yld := fun i H v H' => ∃ T x y, v = .ref T ∧ H T = none ∧ H' = upd H T (.tup [x, y]) ∧ (∀ xs, SqT K H a xs → xs[i]? = some x) ∧ ∀ ys, SqL K H b ys → ys[i]? = some y
  stop := fun i H => ∃ xs ys : List V, SqT K H a xs ∧ SqL K H b ys ∧ i ≤ xs.length ∧ i ≤ ys.length ∧ (xs.length = i ∨ ys.length = i)
theorem sepTL {z TI TO i1 i2 a b : Addr} (D : ZipApart z TI TO i1 i2 a b) : ZipSep2 z TI TO i1 i2 [i1, a] [i2, b] where
  TIz := D.TIz
  TOz := D.TOz
  TITO := D.TITO
  TIi1 := D.TIi1
  mem1 := by simp
  zf1 := by simp [D.i1z.symm, D.l1z.symm]
  Tf1 := by simp [D.TOi1, D.l1TO.symm]
  TIi2 := D.TIi2
  mem2 := by simp
  zf2 := by simp [D.i2z.symm, D.l2z.symm]
  Tf2 := by simp [D.TOi2, D.l2TO.symm]
  sep1_2 := by simp [D.i12, D.l2i1.symm]
  sep2_1 := by simp [D.i12.symm, D.l1i2.symm]
theorem turnTL {P : Program} {w : World} {K : PySem.W.Frag} {elts : List Expr} {kk : Nat} {tpos : Pos} {a b z TI TO i1 i2 : Addr} (D : ZipApart z TI TO i1 i2 a b) :
    Turn P w K (.Tuple elts kk tpos) (ItTL K a b) [z, TI, TO, i1, i2] z (fun n h => IsZip h z TI TO .none ∧ IsPair h TI (.ref i1) (.ref i2) ∧ (∃ x y, IsPair h TO x y) ∧ h.IsTupleIter i1 a n ∧ h.IsListIter i2 b n) where
  mem := by simp
  obj := fun n h q c hc => by
    obtain ⟨gz, gI, ⟨x, y, gO⟩, ⟨o1, e1, _, d1⟩, ⟨o2, e2, _, d2⟩⟩ := q
    simp only [List.mem_cons, List.not_mem_nil, or_false] at hc
    rcases hc with rfl | rfl | rfl | rfl | rfl
    · exact ⟨_, gz, fun v q => nomatch q⟩
    · exact ⟨_, gI, fun v q => nomatch q⟩
    · exact ⟨_, gO, fun v q => nomatch q⟩
    · exact ⟨o1, e1, fun v q => by rw [d1] at q; cases q⟩
    · exact ⟨o2, e2, fun v q => by rw [d2] at q; cases q⟩
  keep := fun n h h' q k => by
    obtain ⟨gz, gI, ⟨x, y, gO⟩, g1, g2⟩ := q
    refine ⟨k z (by simp) _ gz, k TI (by simp) _ gI, ⟨x, y, k TO (by simp) _ gO⟩, ?_, ?_⟩
    · exact g1.at fun o e => k i1 (by simp) o e
    · exact g2.at fun o e => k i2 (by simp) o e
  item := by
    intro X hP hw hK hc n pins s σ H E I hf q hg
    subst hP hw hK
    obtain ⟨gz, gI, ⟨x0, y0, gO⟩, g1, g2⟩ := q
    obtain ⟨xs, ys, x, y, qx, qy, hx, hy⟩ := hg
    obtain ⟨as, rv, p, _⟩ := I.tuple qx
    obtain ⟨bs, rv2, p2, _⟩ := I.list qy
    obtain ⟨u, hu, ru⟩ := rv.get hx
    obtain ⟨u2, hu2, ru2⟩ := rv2.get hy
    have hzl : z < s.heap.objs.size := Heap.lt_size gz
    have hA : X.A.handled = none := I.ok.hd hc
    have n1 : n < as.toArray.size := by
      have := (List.getElem?_eq_some_iff.mp hu).1
      simpa using this
    have n2 : n < bs.toArray.size := by
      have := (List.getElem?_eq_some_iff.mp hu2).1
      simpa using this
    refine wpAny_pyNext_zipD2_item (sepTL D) (Draws.tuple (A := X.A.in1) hA i1 a D.l1i1 as.toArray) (Draws.list (A := X.A.in1) hA i2 b D.l2i2 bs.toArray) gz gI gO ⟨g1, p⟩ ⟨g2, p2.isList⟩ n1 n2 fun v1 v2 h' tk hv1 hv2 z' TO' s1 s2 hT hsz hk => ?_
    have ev1 : v1 = u := Option.some.inj (hv1.symm.trans (by simpa using hu))
    have ev2 : v2 = u2 := Option.some.inj (hv2.symm.trans (by simpa using hu2))
    subst ev1 ev2
    refine ⟨_, rfl, wpAny_letOwnedTupleGo_zip (s := { s with heap := h', toks := tk }) z' fun h'' z'' sb => ?_⟩
    have hT2 : h''.get? s.heap.objs.size = some { cls := .type "tuple", data := .seq #[v1, v2] } := (sb.2 _ (Nat.ne_of_gt hzl)).trans hT
    have new : ObjOk X.prog X.w (upd H s.heap.objs.size (.tup [x, y])) h'' s.heap.objs.size (.tup [x, y]) := by
      refine ⟨by show 2 ≤ sizeLine; decide, [v1, v2], .cons ru (.cons ru2 .nil), ?_⟩
      exact ⟨_, hT2, rfl, _, rfl⟩
    have I1 : Inv X pins σ (upd H s.heap.objs.size (.tup [x, y])) { s with heap := h'', toks := tk } := by
      refine I.turnedNew (t' := tk) (ch := [z, TI, TO, i1, i2]) (fun c o hb e => ?_) hf ?_ new
      · simp only [List.mem_cons, List.not_mem_nil, or_false, not_or] at hb
        obtain ⟨b1, b2, b3, b4, b5⟩ := hb
        exact (sb.2 c b1).trans (hk c o b1 b3 b4 b5 e)
      · exact Nat.le_refl _
    refine ⟨.ref s.heap.objs.size, _, I1, rfl, ⟨_, x, y, rfl, I.hok.fresh (Nat.le_refl _), rfl, ?_, ?_⟩, ⟨z'', ?_, ⟨v1, v2, ?_⟩, ?_, ?_⟩, fun c hcm => ?_⟩
    · intro l hl
      rw [I.tuple_inj hl qx]
      exact hx
    · intro l hl
      rw [I.list_inj hl qy]
      exact hy
    · exact (sb.2 _ D.TIz).trans (hk _ _ D.TIz D.TITO D.TIi1 D.TIi2 gI)
    · exact (sb.2 _ D.TOz).trans TO'
    · exact s1.1.at fun o e => (sb.2 _ D.i1z).trans e
    · exact s2.1.at fun o e => (sb.2 _ D.i2z).trans e
    · have hlt : c < s.heap.objs.size := by
        simp only [List.mem_cons, List.not_mem_nil, or_false] at hcm
        rcases hcm with rfl | rfl | rfl | rfl | rfl
        · exact hzl
        · exact Heap.lt_size gI
        · exact Heap.lt_size gO
        · obtain ⟨_, e1, _⟩ := g1
          exact Heap.lt_size e1
        · obtain ⟨_, e2, _⟩ := g2
          exact Heap.lt_size e2
      rw [upd_ne (Nat.ne_of_lt hlt)]
      exact (hf c hcm).1
  done := by
    intro X hP hw hK hc n pins s σ H E I hf q hg
    subst hP hw hK
    obtain ⟨gz, gI, ⟨x0, y0, gO⟩, g1, g2⟩ := q
    obtain ⟨xs, ys, qx, qy, la, lb, hend⟩ := hg
    obtain ⟨as, rv, p, _⟩ := I.tuple qx
    obtain ⟨bs, rv2, p2, _⟩ := I.list qy
    have hA : X.A.handled = none := I.ok.hd hc
    have l1 := rv.length
    have l2 := rv2.length
    refine wpAny_pyNext_zipD2_end (sepTL D) (Draws.tuple (A := X.A.in1) hA i1 a D.l1i1 as.toArray) (Draws.list (A := X.A.in1) hA i2 b D.l2i2 bs.toArray) gz gI gO ⟨g1, p⟩ ⟨g2, p2.isList⟩ (by simp; omega) (by simp; omega) (by simp; omega) fun h' tk hk => ⟨rfl, ?_⟩
    refine I.turnedL (t' := tk) (ch := [z, TI, TO, i1, i2]) (fun c o hb e => ?_) hf
    simp only [List.mem_cons, List.not_mem_nil, or_false, not_or] at hb
    obtain ⟨b1, b2, b3, b4, b5⟩ := hb
    exact hk c o b1 b3 b4 b5 e
  self := fun A n s Q E q h => wpAny_pyIter_zip q.1 h
def iTL (K : PySem.W.Frag) (ta : TA) : TI := fun σ H R => ta σ H fun vs H1 => ∃ a b xs ys, vs = [.ref a, .ref b] ∧ SqT K H1 a xs ∧ SqL K H1 b ys ∧ R (ItTL K a b) H1
theorem pi_zipTL {X : Cx} {e e2 : Expr} {ta : TA} {p pos tpos : Pos} {elts : List Expr} {kk : Nat} (hg : Gl X "zip") (hm : X.mg "zip" = none) (ha : PA X [e, e2] ta)
    (hs : starEach [e, e2] X.env = (false, eval e X.env) :: starEach [e2] X.env := by rfl) (hq : (backTo pos (starEach [e2] X.env)).any (·.1) = false := by rfl) :
    PI X (.Tuple elts kk tpos) (.Call (.Name "zip" p) [e, e2] [] pos) (iTL X.K ta) := by
  constructor
  intro pins s σ H R I h
  refine Call_ (ld_blt I hg hm PyProof.Rows.boot_zip (PyProof.Rows.callWith_type1 (thn (ha.run pos pins s σ H _ I h) ?_) hs hq))
  rintro us s1 ⟨vs, H1, I1, r1, q1⟩
  obtain ⟨a, b, xs, ys, rfl, qx, qy, q⟩ := q1
  cases r1 with
  | cons r rr =>
    cases rr with
    | cons r' rr =>
      cases rr
      cases r
      cases r'
      obtain ⟨as, rv, p1, _⟩ := I1.tuple qx
      obtain ⟨bs, rv2, p2, _⟩ := I1.list qy
      obtain ⟨o1, ho1, _⟩ := id p1
      obtain ⟨o2, ho2, _⟩ := id p2.isList
      refine zip_begins2 (begins_tuple a as.toArray) (begins_list b bs.toArray) p1 p2.isList fun h' hz hTI hTO h1 h2 hsz hk => wpAny_pyIter_zip hz ?_
      have I2 : Inv X pins σ H1 { s1 with heap := h' } := I1.kept (t' := s1.toks) hk
      have F5 : ∀ c, c ∈ [s1.heap.objs.size + 4, s1.heap.objs.size + 2, s1.heap.objs.size + 3, s1.heap.objs.size, s1.heap.objs.size + 1] → FpOk X pins H1 c := by
        intro c hcm
        have hle : s1.heap.objs.size ≤ c := by
          simp only [List.mem_cons, List.not_mem_nil, or_false] at hcm
          rcases hcm with rfl | rfl | rfl | rfl | rfl
          · exact Nat.le_add_right _ _
          · exact Nat.le_add_right _ _
          · exact Nat.le_add_right _ _
          · exact Nat.le_refl _
          · exact Nat.le_add_right _ _
        exact I1.fpOk hle (I1.hok.fresh hle)
      refine ⟨s1.heap.objs.size + 4, _, _, _, H1, rfl, I2, turnTL (PySem.W.ktu_apart s1.heap.objs.size a b (Heap.lt_size ho1) (Heap.lt_size ho2)), ⟨hz, hTI, ⟨_, _, hTO⟩, ?_, ?_⟩, F5, q⟩
      · exact ⟨_, h1, rfl, rfl⟩
      · exact ⟨_, h2, rfl, rfl⟩
/-! ### x is True, x is False: x anything -/
def rIsT : R2 := fun x y H Q => ∃ b : Bool, y = .bl b ∧ Q (.bl (decide (x = .bl b))) H
theorem op_isT {X : Cx} : OpR X (compareOp .Is) rIsT := by
  intro pins s σ H x y v u Q I rx ry h
  obtain ⟨b, rfl, q⟩ := h
  cases (show u = Value.bool b from ry)
  by_cases e : x = .bl b
  · subst e
    cases (show v = Value.bool b from rx)
    exact wpAny_is_self rfl ⟨.bl true, H, I, rfl, by simpa using q⟩
  · have hne : v ≠ Value.bool b := by
      intro z
      apply e
      subst z
      cases x <;> first
        | (cases rx <;> rfl)
        | (obtain ⟨t, ht⟩ := rx; cases ht)
    have hq : Q (.bl false) H := by
      rw [decide_eq_false e] at q
      exact q
    refine wpAny_is_other ?_ hne ⟨.bl false, H, I, rfl, hq⟩
    cases x <;> first
      | (cases rx <;> rfl)
      | (obtain ⟨t, ht⟩ := rx; cases ht; rfl)
/-! ### an own exception made with nothing -/
section
variable {X : Cx} {C : Addr} {bmB : List Value} {B newId initId : String}
theorem pmk_own0 {x : Str} {p pos : Pos} (F : ExcBaseFacts B newId initId bmB) (q : PySem.W.excIn X.K C bmB newId = true) (gC : X.mg x = some (.ref C)) (kC : PySem.W.keepIn X.K (.ref C) = true) (r : Raises X (.ref C)) (hg : Gl X x)
    (hn : (x == ("__debug__" : Str)) = false := by decide) : PMk X (.Call (.Name x p) [] [] pos) (fun _ H Q => Q (.ref C) none H) := by
  intro pins s σ H Q I h
  refine wpAny_Call_Name_kw (ld_glob I hg gC ?_ hn)
  refine PySem.W.callWith_K0 I.kIn kC ?_
  show wpAny _ _ (call (.ref C) []) _ _ _
  obtain ⟨bm, N, nm, qn, bs, hdct, sn, sub, ab, col, dd, k0, k1, k2, k3, k5, mN, hC, hN, hni, T⟩ := exc_obj I.kIn q
  refine wpAny_call_exc_subT F T hC hN hni (fun h' e hm => ?_) (Nat.zero_le _)
  exact mk_of I hm r h (I.hok.gone hm.new)
end
theorem exm_one {K : PySem.W.Frag} {S : Addr} (h1 : PySem.W.subIn K (.ref S) (.type "BaseException") = some true) (h2 : PySem.W.isClsIn K S = true) (h3 : PySem.W.typeIn K (.ref S) = some (.type "type")) (h4 : PySem.W.subIn K (.ref S) (.ref S) = some true) :
    PySem.W.exmOne K (.ref S) (.ref S) = some true := by
  have e1 : (PySem.W.subIn K (.ref S) (.type "BaseException") == some true) = true := by rw [h1] <;> rfl
  have e2 : ((PySem.W.clsIn K S).isSome && PySem.W.typeIn K (.ref S) == some (.type "type")) = true := by
    rw [h3, Bool.and_eq_true]
    exact ⟨h2, rfl⟩
  show (if (PySem.W.subIn K (.ref S) (.type "BaseException") == some true) = true then (if ((PySem.W.clsIn K S).isSome && PySem.W.typeIn K (.ref S) == some (.type "type")) = true then PySem.W.subIn K (.ref S) (.ref S) else none) else none) = some true
  rw [if_pos e1, if_pos e2]
  exact h4
/-! ### walks of zip -/
theorem walkTT {K : PySem.W.Frag} {a b : Addr} {xs ys : List V} (hl : xs.length = ys.length) :
    Walk (ItzT K a b) xs.length (fun H => SqT K H a xs ∧ SqT K H b ys) (YPair (fun i => xs[i]?) (fun i => ys[i]?)) where
  goes := fun i H hi q => ⟨xs, ys, xs[i], ys[i]'(by omega), q.1, q.2, by simp, by simp⟩
  stops := fun H q => ⟨xs, ys, q.1, q.2, Or.inl (Nat.le_refl _)⟩
  yields := fun i H v H' _ q y => by
    obtain ⟨T, x, z, h1, h2, h3, h4, h5⟩ := y
    exact ⟨T, x, z, h1, h2, h3, h4 xs q.1, h5 ys q.2⟩
theorem walkLL {K : PySem.W.Frag} {a b : Addr} {xs ys : List V} (hl : xs.length = ys.length) :
    Walk (Itz K a b) xs.length (fun H => SqL K H a xs ∧ SqL K H b ys) (YPair (fun i => xs[i]?) (fun i => ys[i]?)) := walk_zip (by omega)
theorem walkTL {K : PySem.W.Frag} {a b : Addr} {xs ys : List V} (hl : xs.length = ys.length) :
    Walk (ItTL K a b) xs.length (fun H => SqT K H a xs ∧ SqL K H b ys) (YPair (fun i => xs[i]?) (fun i => ys[i]?)) where
  goes := fun i H hi q => ⟨xs, ys, xs[i], ys[i]'(by omega), q.1, q.2, by simp, by simp⟩
  stops := fun H q => ⟨xs, ys, q.1, q.2, Nat.le_refl _, by omega, Or.inl rfl⟩
  yields := fun i H v H' _ q y => by
    obtain ⟨T, x, z, h1, h2, h3, h4, h5⟩ := y
    exact ⟨T, x, z, h1, h2, h3, h4 xs q.1, h5 ys q.2⟩
/-- any walk, whatever is done with what it gives -/
theorem any_it {J : It} {n : Nat} {G : Hp → Prop} {Y : Nat → Hp → V → Hp → Prop} (w : Walk J n G Y) {H0 : Hp} {Qd : Hp → Prop} {B : V → Hp → (Hp → Prop) → Prop} (Pv : Nat → Hp → Prop) (h0 : Pv 0 H0) (hG : ∀ i H, i ≤ n → Pv i H → G H)
    (hs : ∀ i x H H', i < n → Pv i H → Y i H x H' → B x H' (Pv (i + 1))) (hd : ∀ H, Pv n H → Qd H) :
    ∃ W : Nat → Nat → Hp → Prop, (∃ m, W 0 m H0) ∧ ∀ i m H, W i m H → (J.stop i H ∧ Qd H) ∨ (J.go i H ∧ ∃ Nx : Hp → Prop, (∀ H', Nx H' → ∃ m', m' < m ∧ W (i + 1) m' H') ∧ ∀ x H', J.yld i H x H' → B x H' Nx) := by
  refine ⟨fun i m H => m = n - i ∧ i ≤ n ∧ Pv i H, ⟨n, rfl, Nat.zero_le _, h0⟩, ?_⟩
  rintro i m H ⟨rfl, hi, p⟩
  have q := hG i H hi p
  by_cases hlt : i < n
  · exact Or.inr ⟨w.goes i H hlt q, Pv (i + 1), fun H' p' => ⟨n - (i + 1), by omega, rfl, hlt, p'⟩, fun x H' y => hs i x H H' hlt p (w.yields i H x H' hlt q y)⟩
  · have e : i = n := by omega
    subst e
    exact Or.inl ⟨w.stops H q, hd H p⟩
/-! ### comprehensions -/
abbrev gTwo (K : PySem.W.Frag) (i j : Nat) : TG := gTup K 2 (gCons (gName i) (gCons (gName j) gNil))
theorem gTwo_of {K : PySem.W.Frag} {i j : Nat} {x y : V} {T : Addr} {σ : L2.St} {H : Hp} {Q : L2.St → Hp → Prop} (q : Q ((σ.set i (some x)).set j (some y)) (upd H T (.tup [x, y]))) :
    gTwo K i j (.ref T) σ (upd H T (.tup [x, y])) Q := ⟨T, [x, y], rfl, Or.inl (Or.inl upd_same), rfl, x, [y], rfl, y, [], rfl, rfl, q⟩
theorem gTwo_at {K : PySem.W.Frag} {i j : Nat} {x y : V} {T : Addr} {σ : L2.St} {H : Hp} {Q : L2.St → Hp → Prop} (h : H T = some (.tup [x, y])) (q : Q ((σ.set i (some x)).set j (some y)) H) :
    gTwo K i j (.ref T) σ H Q := ⟨T, [x, y], rfl, Or.inl (Or.inl h), rfl, x, [y], rfl, y, [], rfl, rfl, q⟩
theorem yes_if {σ : L2.St} {H : Hp} {A B : Hp → Prop} (h : A H) : tYes σ H (fun b H3 => if b = true then A H3 else B H3) := h
/-- what the first n pairs give -/
def pick (c : V → V → Bool) (g : V → V → V) (zs : List (V × V)) : List V := (zs.filter fun p => c p.1 p.2).map fun p => g p.1 p.2
theorem pick_len (c : V → V → Bool) (g : V → V → V) (zs : List (V × V)) : (pick c g zs).length ≤ zs.length := by
  unfold pick
  rw [List.length_map]
  exact List.length_filter_le _ _
theorem pick_yes {c : V → V → Bool} {g : V → V → V} {zs : List (V × V)} {x y : V} (h : c x y = true) : pick c g (zs ++ [(x, y)]) = pick c g zs ++ [g x y] := by
  unfold pick
  rw [List.filter_append, List.map_append]
  simp [h]
theorem pick_no {c : V → V → Bool} {g : V → V → V} {zs : List (V × V)} {x y : V} (h : c x y = false) : pick c g (zs ++ [(x, y)]) = pick c g zs := by
  unfold pick
  rw [List.filter_append]
  simp [h]
theorem zip_next {xs ys : List V} {i : Nat} {x y : V} (hx : xs[i]? = some x) (hy : ys[i]? = some y) : (xs.zip ys).take (i + 1) = (xs.zip ys).take i ++ [(x, y)] := by
  have h : (xs.zip ys)[i]? = some (x, y) := by
    rw [List.getElem?_zip_eq_some]
    exact ⟨hx, hy⟩
  rw [List.take_add_one, h]
  rfl
theorem zip_mem {xs ys : List V} {i : Nat} {x y : V} (hx : xs[i]? = some x) (hy : ys[i]? = some y) : (x, y) ∈ xs.zip ys := by
  have h : (xs.zip ys)[i]? = some (x, y) := by
    rw [List.getElem?_zip_eq_some]
    exact ⟨hx, hy⟩
  exact List.mem_of_getElem? h
section
variable {K : PySem.W.Frag} {σ : L2.St} {H : Hp} {te tl : TE} {tt : TT} {vs : List Nat}
theorem lc_pairs {J : It} {G : Hp → Prop} {xs ys : List V} {i j : Nat} {H1 : Hp} {D : Addr} {Qd : Hp → Prop} (w : Walk J xs.length G (YPair (fun i => xs[i]?) (fun i => ys[i]?))) (hl : xs.length = ys.length) (hz : xs.length ≤ 1000) (c : V → V → Bool) (g : V → V → V)
    (hD : H1 D = none) (hG : ∀ H', Ex H1 H' → G H') (hw : ∀ x y, wipe (((wipe σ vs).set i (some x)).set j (some y)) vs = wipe σ vs)
    (ht : ∀ x y H', Ex H1 H' → (x, y) ∈ xs.zip ys → EvT tt (((wipe σ vs).set i (some x)).set j (some y)) H' (c x y))
    (he : ∀ x y H', Ex H1 H' → (x, y) ∈ xs.zip ys → c x y = true → Ev te (((wipe σ vs).set i (some x)).set j (some y)) H' (g x y))
    (hd : ∀ H', Ex H1 H' → H' D = some (.lst (pick c g (xs.zip ys))) → Qd H') :
    ∃ W : Nat → Nat → Hp → Prop, (∃ m, W 0 m (upd H1 D (.lst []))) ∧ ∀ n m H, W n m H →
      (J.stop n H ∧ Qd H) ∨ (J.go n H ∧ ∃ Nx : Hp → Prop, (∀ H', Nx H' → ∃ m', m' < m ∧ W (n + 1) m' H') ∧ ∀ x H', J.yld n H x H' → gTwo K i j x (wipe σ vs) H' fun σ2 H2 => wipe σ2 vs = wipe σ vs ∧ tt σ2 H2 fun b H3 =>
        if b = true then te σ2 H3 fun y H4 => ∃ acc, H4 D = some (.lst acc) ∧ acc.length < sizeLine ∧ Nx (upd H4 D (.lst (acc ++ [y]))) else Nx H3) := by
  refine lc_it w (fun n H' => Ex H1 H' ∧ H' D = some (.lst (pick c g ((xs.zip ys).take n)))) ⟨Ex.new hD, upd_same⟩ (fun n H' _ p => hG H' p.1) ?_ ?_
  · rintro n v H' H'' hn ⟨p1, p2⟩ ⟨T, x, y, rfl, nT, rfl, hx, hy⟩
    have dT : D ≠ T := ne_of_none p2 nT
    have eT : Ex H1 (upd H' T (.tup [x, y])) := p1.trans (Ex.new nT)
    have pD : (upd H' T (.tup [x, y])) D = some (.lst (pick c g ((xs.zip ys).take n))) := by
      rw [upd_ne dT]
      exact p2
    refine gTwo_of ⟨hw x y, ?_⟩
    refine ht x y _ eT (zip_mem hx hy) _ (Ex.refl _) _ fun H3 e3 => ?_
    cases hc : c x y with
    | true =>
      refine iteT ?_
      refine he x y _ eT (zip_mem hx hy) hc H3 e3 _ fun H4 e4 => ⟨_, e4 D _ (e3 D _ pD), sz_lt ?_, Ex.mut ((eT.trans e3).trans e4) hD, ?_⟩
      · have h1 := pick_len c g ((xs.zip ys).take n)
        have h2 : ((xs.zip ys).take n).length ≤ n := List.length_take_le _ _
        omega
      · rw [zip_next hx hy, pick_yes hc]
        exact upd_same
    | false =>
      refine iteF ?_
      refine ⟨eT.trans e3, ?_⟩
      rw [zip_next hx hy, pick_no hc]
      exact e3 D _ pD
  · rintro H' ⟨p1, p2⟩
    refine hd H' p1 ?_
    rw [List.take_of_length_le (by rw [List.length_zip]; omega)] at p2
    exact p2
/-- [e for x, y in zip(a, b) if ..], two tuples -/
theorem el_zip {a b : Addr} {xs ys : List V} {ta : TA} {i j : Nat} (c : V → V → Bool) (g : V → V → V) (h : EvA ta σ H [.ref a, .ref b]) (hx : SqT K H a xs) (hy : SqT K H b ys) (hl : xs.length = ys.length) (hz : xs.length ≤ 1000)
    (hw : ∀ x y, wipe (((wipe σ vs).set i (some x)).set j (some y)) vs = wipe σ vs)
    (ht : ∀ x y H', Ex H H' → (x, y) ∈ xs.zip ys → EvT tt (((wipe σ vs).set i (some x)).set j (some y)) H' (c x y))
    (he : ∀ x y H', Ex H H' → (x, y) ∈ xs.zip ys → c x y = true → Ev te (((wipe σ vs).set i (some x)).set j (some y)) H' (g x y)) :
    EvL (tLc (iZipA K ta) (gTwo K i j) tt te vs) σ H (pick c g (xs.zip ys)) := fun H0 e Q q => h H0 e _ fun H1 e1 =>
  ⟨a, b, xs, ys, rfl, Or.inr ⟨ex_t (e.trans e1) hx, ex_t (e.trans e1) hy, fun D hD => lc_pairs (walkTT hl) hl hz c g hD (fun H' e2 => ⟨ex_t ((e.trans e1).trans e2) hx, ex_t ((e.trans e1).trans e2) hy⟩) hw
    (fun x y H' e2 m => ht x y H' ((e.trans e1).trans e2) m) (fun x y H' e2 m hc => he x y H' ((e.trans e1).trans e2) m hc) fun H' e2 h2 => q D H' (fresh_back e1 hD) (e1.trans e2) h2⟩⟩
theorem et_yes : EvT tYes σ H true := fun H1 _ _ q => q H1 (Ex.refl H1)
theorem pick_all (g : V → V → V) (zs : List (V × V)) : pick (fun _ _ => true) g zs = zs.map fun p => g p.1 p.2 := by
  unfold pick
  rw [List.filter_eq_self.mpr (fun _ _ => rfl)]
/-- [e for x in xs] -/
theorem given_map {xs : List V} (g : V → V) : given xs.length (fun _ => true) (fun i => g (xs.getD i .non)) = xs.map g := by
  unfold given
  rw [List.filter_eq_self.mpr (fun _ _ => rfl)]
  apply List.ext_getElem
  · simp
  · intro i h1 h2
    have hi : i < xs.length := by simpa using h2
    rw [List.getElem_map, List.getElem_map, List.getElem_range, List.getD_eq_getElem?_getD, List.getElem?_eq_getElem hi]
    rfl
theorem el_map {a : Addr} {xs : List V} {j : Nat} (g : V → V) (h : Ev tl σ H (.ref a)) (hx : SqL K H a xs) (hz : xs.length ≤ 1000) (hw : ∀ x, wipe ((wipe σ vs).set j (some x)) vs = wipe σ vs)
    (he : ∀ x ∈ xs, ∀ H1, Ex H H1 → Ev te ((wipe σ vs).set j (some x)) H1 (g x)) : EvL (tLc (iList K tl) (gName j) tYes te vs) σ H (xs.map g) := by
  have r := el_lcL (K := K) (t := tYes) (te := te) (tl := tl) (j := j) (vs := vs) (σ := σ) (H := H) (fun _ => true) (fun i => g (xs.getD i .non)) h hx (by omega) hw (fun _ _ _ _ _ => et_yes) (fun i x H1 e1 hi _ => by
    have hm := List.mem_of_getElem? hi
    have e0 : xs.getD i .non = x := by
      rw [List.getD_eq_getElem?_getD, hi]
      rfl
    rw [e0]
    exact he x hm H1 e1)
  rw [given_map] at r
  exact r
/-- tuple([..]) of a new list -/
theorem eu_tuple {xs : List V} (h : EvL te σ H xs) : EvU (tCB (fun xs H Q => ∃ p ys, xs = [.ref p] ∧ ((SqL K H p ys ∧ ∀ l, H l = none → Q (.ref l) (upd H l (.tup ys))) ∨ (SqT K H p ys ∧ Q (.ref p) H))) (tCons te tNil)) σ H xs := fun H1 e Q q =>
  h H1 e _ fun p H2 hp e2 h2 => ⟨p, xs, rfl, Or.inl ⟨sq_of h2, fun l hl => q l _ (fresh_back e2 hl) (e2.trans (Ex.new hl)) upd_same⟩⟩
/-- tuple(xs), xs a list that stands -/
theorem eu_tupleL {a : Addr} {xs : List V} (h : Ev te σ H (.ref a)) (hx : SqL K H a xs) : EvU (tCB (fun xs H Q => ∃ p ys, xs = [.ref p] ∧ ((SqL K H p ys ∧ ∀ l, H l = none → Q (.ref l) (upd H l (.tup ys))) ∨ (SqT K H p ys ∧ Q (.ref p) H))) (tCons te tNil)) σ H xs := fun H1 e Q q =>
  h H1 e _ fun H2 e2 => ⟨a, xs, rfl, Or.inl ⟨ex_l (e.trans e2) hx, fun l hl => q l _ (fresh_back e2 hl) (e2.trans (Ex.new hl)) upd_same⟩⟩
theorem ev_all {bs : List Bool} (h : EvL te σ H (bs.map V.bl)) : Ev (tCB (rAll K) (tCons te tNil)) σ H (.bl (bs.all id)) := fun H1 e Q q =>
  h H1 e _ fun p H2 _ e2 h2 => ⟨p, bs, rfl, sq_of h2, q H2 e2⟩
theorem ev_sum {ns : List Int} (h : EvL te σ H (ns.map V.int)) : Ev (tCB (rSum K) (tCons te tNil)) σ H (.int ns.sum) := fun H1 e Q q =>
  h H1 e _ fun p H2 _ e2 h2 => ⟨p, ns, rfl, sq_of h2, q H2 e2⟩
end
theorem max2 (i j : Int) : (if j > i then j else i) = max i j := by omega
theorem min2 (i j : Int) : (if j < i then j else i) = min i j := by omega
section
variable {σ : L2.St} {H : Hp} {ta tb : TE}
theorem ev_max {i j : Int} (ha : Ev ta σ H (.int i)) (hb : Ev tb σ H (.int j)) : Ev (tCB (fun xs H Q => ∃ i j, xs = [.int i, .int j] ∧ Q (.int (if j > i then j else i)) H) (tCons ta (tCons tb tNil))) σ H (.int (max i j)) := fun H1 e Q q =>
  ha H1 e _ fun H2 e2 => hb H2 (e.trans e2) _ fun H3 e3 => ⟨i, j, rfl, by rw [max2]; exact q H3 (e2.trans e3)⟩
theorem ev_min {i j : Int} (ha : Ev ta σ H (.int i)) (hb : Ev tb σ H (.int j)) : Ev (tCB (fun xs H Q => ∃ i j, xs = [.int i, .int j] ∧ Q (.int (if j < i then j else i)) H) (tCons ta (tCons tb tNil))) σ H (.int (min i j)) := fun H1 e Q q =>
  ha H1 e _ fun H2 e2 => hb H2 (e.trans e2) _ fun H3 e3 => ⟨i, j, rfl, by rw [min2]; exact q H3 (e2.trans e3)⟩
end
/-! ### ears -/
def EarL (xs : List Int) : Prop := xs.length = 6 ∧ ∀ x ∈ xs, 0 ≤ x ∧ x ≤ 9
abbrev TpI (K : PySem.W.Frag) (H : Hp) (a : Addr) (xs : List Int) : Prop := SqT K H a (xs.map V.int)
theorem zip_ints (xs ys : List Int) : (xs.map V.int).zip (ys.map V.int) = (xs.zip ys).map fun p => (V.int p.1, V.int p.2) := by
  induction xs generalizing ys with
  | nil => rfl
  | cons x r ih =>
    cases ys with
    | nil => rfl
    | cons y s => simp [ih]
theorem zip_ints_mem {xs ys : List Int} {v w : V} (h : (v, w) ∈ (xs.map V.int).zip (ys.map V.int)) : ∃ x y : Int, v = .int x ∧ w = .int y ∧ (x, y) ∈ xs.zip ys := by
  rw [zip_ints] at h
  obtain ⟨p, hp, e⟩ := List.mem_map.mp h
  cases e
  exact ⟨p.1, p.2, rfl, rfl, hp⟩
/-- a function of ints as one of values -/
def on2 (g : Int → Int → V) : V → V → V
  | .int i, .int j => g i j
  | _, _ => .non
def on2b (c : Int → Int → Bool) : V → V → Bool
  | .int i, .int j => c i j
  | _, _ => false
def on1 (g : Int → V) : V → V
  | .int i => g i
  | _ => .non
theorem pick_ints (c : Int → Int → Bool) (g : Int → Int → V) (xs ys : List Int) : pick (on2b c) (on2 g) ((xs.map V.int).zip (ys.map V.int)) = ((xs.zip ys).filter fun p => c p.1 p.2).map fun p => g p.1 p.2 := by
  rw [zip_ints]
  unfold pick
  rw [List.filter_map, List.map_map]
  rfl
theorem pick_ints1 (g : Int → Int → V) (xs ys : List Int) : pick (fun _ _ => true) (on2 g) ((xs.map V.int).zip (ys.map V.int)) = (xs.zip ys).map fun p => g p.1 p.2 := by
  rw [zip_ints, pick_all, List.map_map]
  rfl
theorem map_on1 (g : Int → V) (xs : List Int) : (xs.map V.int).map (on1 g) = xs.map g := by
  rw [List.map_map]
  rfl
section
variable {K : PySem.W.Frag} {σ : L2.St} {H : Hp} {te tl : TE} {tt : TT} {vs : List Nat}
/-- the same of two tuples of ints -/
theorem ez_ints {a b : Addr} {xs ys : List Int} {ta : TA} {i j : Nat} (g : Int → Int → V) (h : EvA ta σ H [.ref a, .ref b]) (hx : TpI K H a xs) (hy : TpI K H b ys) (hl : xs.length = ys.length) (hz : xs.length ≤ 1000)
    (hw : ∀ x y, wipe (((wipe σ vs).set i (some x)).set j (some y)) vs = wipe σ vs)
    (he : ∀ (x y : Int) H', Ex H H' → (x, y) ∈ xs.zip ys → Ev te (((wipe σ vs).set i (some (.int x))).set j (some (.int y))) H' (g x y)) :
    EvL (tLc (iZipA K ta) (gTwo K i j) tYes te vs) σ H ((xs.zip ys).map fun p => g p.1 p.2) := by
  have r := el_zip (K := K) (tt := tYes) (te := te) (fun _ _ => true) (on2 g) h hx hy (by simpa using hl) (by simpa using hz) hw (fun _ _ _ _ _ => et_yes) (fun v w H' e m _ => by
    obtain ⟨x, y, rfl, rfl, hm⟩ := zip_ints_mem m
    exact he x y H' e hm)
  rw [pick_ints1] at r
  exact r
theorem ez_intsIf {a b : Addr} {xs ys : List Int} {ta : TA} {i j : Nat} (c : Int → Int → Bool) (g : Int → Int → V) (h : EvA ta σ H [.ref a, .ref b]) (hx : TpI K H a xs) (hy : TpI K H b ys) (hl : xs.length = ys.length) (hz : xs.length ≤ 1000)
    (hw : ∀ x y, wipe (((wipe σ vs).set i (some x)).set j (some y)) vs = wipe σ vs)
    (ht : ∀ (x y : Int) H', Ex H H' → EvT tt (((wipe σ vs).set i (some (.int x))).set j (some (.int y))) H' (c x y))
    (he : ∀ (x y : Int) H', Ex H H' → Ev te (((wipe σ vs).set i (some (.int x))).set j (some (.int y))) H' (g x y)) :
    EvL (tLc (iZipA K ta) (gTwo K i j) tt te vs) σ H (((xs.zip ys).filter fun p => c p.1 p.2).map fun p => g p.1 p.2) := by
  have r := el_zip (K := K) (tt := tt) (te := te) (on2b c) (on2 g) h hx hy (by simpa using hl) (by simpa using hz) hw (fun v w H' e m => by
    obtain ⟨x, y, rfl, rfl, hm⟩ := zip_ints_mem m
    exact ht x y H' e) (fun v w H' e m _ => by
    obtain ⟨x, y, rfl, rfl, hm⟩ := zip_ints_mem m
    exact he x y H' e)
  rw [pick_ints] at r
  exact r
theorem em_ints {a : Addr} {xs : List Int} {j : Nat} (g : Int → V) (h : Ev tl σ H (.ref a)) (hx : SqL K H a (xs.map V.int)) (hz : xs.length ≤ 1000) (hw : ∀ x, wipe ((wipe σ vs).set j (some x)) vs = wipe σ vs)
    (he : ∀ x : Int, x ∈ xs → ∀ H1, Ex H H1 → Ev te ((wipe σ vs).set j (some (.int x))) H1 (g x)) : EvL (tLc (iList K tl) (gName j) tYes te vs) σ H (xs.map g) := by
  have r := el_map (K := K) (te := te) (on1 g) h hx (by simpa using hz) hw (fun v hv H1 e1 => by
    obtain ⟨x, hx', rfl⟩ := List.mem_map.mp hv
    exact he x hx' H1 e1)
  rw [map_on1] at r
  exact r
end
/-! ### comprehensions over a tuple; over what stands at an address -/
section
variable {K : PySem.W.Frag} {σ : L2.St} {H : Hp} {te tl : TE} {tt : TT} {vs : List Nat}
theorem take_next {xs : List V} {i : Nat} {x : V} (hx : xs[i]? = some x) : xs.take (i + 1) = xs.take i ++ [x] := by
  rw [List.take_add_one, hx]
  rfl
theorem em_tup {a : Addr} {xs : List V} {j : Nat} (g : V → V) (h : Ev tl σ H (.ref a)) (hx : SqT K H a xs) (hz : xs.length ≤ 1000) (hw : ∀ x, wipe ((wipe σ vs).set j (some x)) vs = wipe σ vs)
    (he : ∀ x ∈ xs, ∀ H1, Ex H H1 → Ev te ((wipe σ vs).set j (some x)) H1 (g x)) : EvL (tLc (iTup K tl) (gName j) tYes te vs) σ H (xs.map g) := fun H0 e Q q => h H0 e _ fun H1 e1 => ⟨a, rfl, ⟨xs, ex_t (e.trans e1) hx⟩, fun D hD => by
  refine lc_it walk_tup (fun n H' => Ex H1 H' ∧ H' D = some (.lst ((xs.take n).map g))) ⟨Ex.new hD, upd_same⟩ (fun n H' _ p => ex_t ((e.trans e1).trans p.1) hx) ?_ ?_
  · rintro n x H' H'' hn ⟨p1, p2⟩ ⟨rfl, gx⟩
    refine ⟨hw x, ?_⟩
    show te ((wipe σ vs).set j (some x)) _ _
    refine he x (List.mem_of_getElem? gx) _ ((e.trans e1).trans p1) _ (Ex.refl _) _ fun H4 e4 => ⟨_, e4 D _ p2, sz_lt ?_, Ex.mut (p1.trans e4) hD, ?_⟩
    · rw [List.length_map]
      have := List.length_take_le n xs
      omega
    · rw [upd_same, take_next gx, List.map_append]
      rfl
  · rintro H' ⟨p1, p2⟩
    rw [List.take_of_length_le (Nat.le_refl _)] at p2
    exact q D H' (fresh_back e1 hD) (e1.trans p1) p2⟩
theorem emT_ints {a : Addr} {xs : List Int} {j : Nat} (g : Int → V) (h : Ev tl σ H (.ref a)) (hx : TpI K H a xs) (hz : xs.length ≤ 1000) (hw : ∀ x, wipe ((wipe σ vs).set j (some x)) vs = wipe σ vs)
    (he : ∀ x : Int, x ∈ xs → ∀ H1, Ex H H1 → Ev te ((wipe σ vs).set j (some (.int x))) H1 (g x)) : EvL (tLc (iTup K tl) (gName j) tYes te vs) σ H (xs.map g) := by
  have r := em_tup (K := K) (te := te) (on1 g) h hx (by simpa using hz) hw (fun v hv H1 e1 => by
    obtain ⟨x, hx', rfl⟩ := List.mem_map.mp hv
    exact he x hx' H1 e1)
  rw [map_on1] at r
  exact r
theorem em_tupN {xs : List V} {j : Nat} (g : V → V) (h : EvU tl σ H xs) (hz : xs.length ≤ 1000) (hw : ∀ x, wipe ((wipe σ vs).set j (some x)) vs = wipe σ vs)
    (he : ∀ x ∈ xs, ∀ H1, Ex H H1 → Ev te ((wipe σ vs).set j (some x)) H1 (g x)) : EvL (tLc (iTup K tl) (gName j) tYes te vs) σ H (xs.map g) := fun H0 e Q q => h H0 e _ fun p H1 hp e1 h1 =>
  em_tup (K := K) (te := te) (tl := tC (.ref p)) g ev_c (st_of h1) hz hw (fun x hx H2 e2 => he x hx H2 ((e.trans e1).trans e2)) H1 (Ex.refl H1) Q fun p2 H2 n2 e2 h2 => q p2 H2 (fresh_back e1 n2) (e1.trans e2) h2
theorem emT_intsN {xs : List Int} {j : Nat} (g : Int → V) (h : EvU tl σ H (xs.map V.int)) (hz : xs.length ≤ 1000) (hw : ∀ x, wipe ((wipe σ vs).set j (some x)) vs = wipe σ vs)
    (he : ∀ x : Int, x ∈ xs → ∀ H1, Ex H H1 → Ev te ((wipe σ vs).set j (some (.int x))) H1 (g x)) : EvL (tLc (iTup K tl) (gName j) tYes te vs) σ H (xs.map g) := by
  have r := em_tupN (K := K) (te := te) (on1 g) h (by simpa using hz) hw (fun v hv H1 e1 => by
    obtain ⟨x, hx', rfl⟩ := List.mem_map.mp hv
    exact he x hx' H1 e1)
  rw [map_on1] at r
  exact r
/-- the list that is walked stands already: what the walk asks -/
theorem at_ints {a : Addr} {xs : List Int} {j : Nat} (g : Int → V) (hx : SqL K H a (xs.map V.int)) (hz : xs.length ≤ 1000) (hw : ∀ x, wipe ((wipe σ vs).set j (some x)) vs = wipe σ vs)
    (he : ∀ x : Int, x ∈ xs → ∀ H1, Ex H H1 → Ev te ((wipe σ vs).set j (some (.int x))) H1 (g x)) {Q : VK} (q : ∀ p H2, H p = none → Ex H H2 → H2 p = some (.lst (xs.map g)) → Q (.ref p) H2) :
    tLc (iList K (tC (.ref a))) (gName j) tYes te vs σ H Q := em_ints (K := K) (te := te) g ev_c hx hz hw he H (Ex.refl H) Q q
/-- evaluates to some value of which P is known -/
def EvS (te : TE) (σ : L2.St) (H : Hp) (P : V → Hp → Prop) : Prop := ∀ H1, Ex H H1 → ∀ Q : VK, (∀ v H2, Ex H1 H2 → P v H2 → Q v H2) → te σ H1 Q
def SomeL (P : List Int → Prop) (v : V) (H : Hp) : Prop := ∃ (p : Addr) (xs : List Int), v = .ref p ∧ H p = some (.lst (xs.map V.int)) ∧ P xs
/-- y = [e for x in call(..)], the call hands back some list of ints -/
theorem q_lcN {i j : Nat} {D : Ends} {tz : TS} (P : List Int → Prop) (g : Int → V) (h : EvS tl σ H (SomeL P)) (hz : ∀ xs, P xs → xs.length ≤ 1000) (hw : ∀ x, wipe ((wipe σ vs).set j (some x)) vs = wipe σ vs)
    (he : ∀ (x : Int) H1, Ex H H1 → Ev te ((wipe σ vs).set j (some (.int x))) H1 (g x)) (k : ∀ p H1 xs, P xs → H p = none → Ex H H1 → H1 p = some (.lst (xs.map g)) → tz D (σ.set i (some (.ref p))) H1) :
    tSeq (tAsg (tLc (iList K tl) (gName j) tYes te vs) (gName i)) tz D σ H := by
  refine h H (Ex.refl H) _ fun v H1 e1 hv => ?_
  obtain ⟨p, xs, rfl, hp, hP⟩ := hv
  exact em_ints (K := K) (te := te) (tl := tC (.ref p)) g ev_c (sq_of hp) (hz xs hP) hw (fun x _ H2 e2 => he x H2 (e1.trans e2)) H1 (Ex.refl H1) (fun v H' => tz D (σ.set i (some v)) H') fun p2 H2 n2 e2 h2 => k p2 H2 xs hP (fresh_back e1 n2) (e1.trans e2) h2
theorem ev_chain {ta tb tc : TE} {i j k : Int} (ha : Ev ta σ H (.int i)) (hb : Ev tb σ H (.int j)) (hc : Ev tc σ H (.int k)) :
    Ev (tChain (rI0 fun i j => .bl (decide (i ≤ j))) (rI0 fun i j => .bl (decide (i ≤ j))) ta tb tc) σ H (.bl (decide (i ≤ j) && decide (j ≤ k))) := fun H1 e Q q =>
  ha H1 e _ fun H2 e2 => hb H2 (e.trans e2) _ fun H3 e3 => ⟨i, j, rfl, rfl, _, rfl, by
    cases hd : decide (i ≤ j) with
    | true =>
      refine iteT ?_
      refine hc H3 ((e.trans e2).trans e3) _ fun H4 e4 => ⟨j, k, rfl, rfl, ?_⟩
      have r := q H4 ((e2.trans e3).trans e4)
      rw [hd, Bool.true_and] at r
      exact r
    | false =>
      refine iteF ?_
      have r := q H3 (e2.trans e3)
      rw [hd, Bool.false_and] at r
      exact r⟩
end
/-! ### values of which something is known -/
section
variable {K : PySem.W.Frag} {σ : L2.St} {H H' : Hp} {te ta tb : TE} {t : TT} {P R : V → Hp → Prop} {v : V}
theorem EvS.mono (e : Ex H H') (h : EvS te σ H P) : EvS te σ H' P := fun H1 a Q q => h H1 (e.trans a) Q q
theorem es_ev (h : Ev te σ H v) (hp : ∀ H', Ex H H' → P v H') : EvS te σ H P := fun H1 e Q q => h H1 e Q fun H2 e2 => q v H2 e2 (hp H2 (e.trans e2))
theorem EvS.imp (h : EvS te σ H P) (k : ∀ v H', P v H' → R v H') : EvS te σ H R := fun H1 e Q q => h H1 e Q fun v H2 e2 p => q v H2 e2 (k v H2 p)
def SomeT (n : Nat) (v : V) (_ : Hp) : Prop := ∃ z : Str, v = .str z ∧ z.length ≤ n
theorem q_asgS {i : Nat} {D : Ends} {tz : TS} (h : EvS te σ H P) (k : ∀ v H1, Ex H H1 → P v H1 → tz D (σ.set i (some v)) H1) : tSeq (tAsg te (gName i)) tz D σ H := h H (Ex.refl H) _ fun v H1 e p => k v H1 e p
/-- if t: x = e, of which the same is known whether or not -/
theorem q_maybe {i : Nat} {D : Ends} {tz : TS} {b : Bool} {v0 : V} (P : V → Hp → Prop) (h : EvT t σ H b) (he : b = true → EvS te σ H P) (h0 : ∀ H', Ex H H' → P v0 H') (hs : σ.set i (some v0) = σ) (k : ∀ v H1, Ex H H1 → P v H1 → tz D (σ.set i (some v)) H1) :
    tSeq (tIfS t (tAsg te (gName i)) tNext) tz D σ H := by
  refine q_when h (fun hb H1 e1 => ?_) (fun hb H1 e1 => ?_)
  · exact he hb H1 e1 _ fun v H2 e2 p => k v H2 (e1.trans e2) p
  · have g := k v0 H1 e1 (h0 H1 e1)
    rw [hs] at g
    exact g
theorem es_add {m n : Nat} (h1 : EvS ta σ H (SomeT m)) (h2 : EvS tb σ H (SomeT n)) (hz : m + n ≤ 5000) :
    EvS (tOp (fun x y H Q => ∃ i j, x = .str i ∧ y = .str j ∧ i.length + j.length ≤ sizeLine ∧ Q (.str (i ++ j)) H) ta tb) σ H (SomeT (m + n)) := fun H1 e Q q =>
  h1 H1 e _ fun v H2 e2 p => h2 H2 (e.trans e2) _ fun w H3 e3 r => by
    obtain ⟨x, rfl, hx⟩ := p
    obtain ⟨y, rfl, hy⟩ := r
    refine ⟨x, y, rfl, rfl, sz_of (by omega), q _ H3 (e2.trans e3) ⟨_, rfl, ?_⟩⟩
    rw [TL.len_tl, TL.tl_append, List.length_append, ← TL.len_tl, ← TL.len_tl]
    omega
theorem es_cut {n : Nat} {tl th : TO} {lo hi : Option Int} (h : EvS te σ H (SomeT n)) (h1 : EvO tl σ H lo) (h2 : EvO th σ H hi) (hz : n ≤ 5000) : EvS (tSl rSlS te tl th) σ H (SomeT n) := fun H1 e Q q =>
  h H1 e _ fun v H2 e2 p => h1 H2 (e.trans e2) _ fun H3 e3 => h2 H3 ((e.trans e2).trans e3) _ fun H4 e4 => by
    obtain ⟨x, rfl, hx⟩ := p
    refine ⟨x, rfl, sz_of (by omega), q _ H4 ((e2.trans e3).trans e4) ⟨_, rfl, ?_⟩⟩
    have := cutS_length x lo hi
    omega
/-- [e for x, y in zip(a new tuple, b)] -/
theorem el_zipN {b : Addr} {xs ys : List V} {vs : List Nat} {tt : TT} {i j : Nat} (c : V → V → Bool) (g : V → V → V) (h1 : EvU ta σ H xs) (h2 : Ev tb σ H (.ref b)) (hy : SqT K H b ys) (hl : xs.length = ys.length) (hz : xs.length ≤ 1000)
    (hw : ∀ x y, wipe (((wipe σ vs).set i (some x)).set j (some y)) vs = wipe σ vs)
    (ht : ∀ x y H', Ex H H' → (x, y) ∈ xs.zip ys → EvT tt (((wipe σ vs).set i (some x)).set j (some y)) H' (c x y))
    (he : ∀ x y H', Ex H H' → (x, y) ∈ xs.zip ys → c x y = true → Ev te (((wipe σ vs).set i (some x)).set j (some y)) H' (g x y)) :
    EvL (tLc (iZipA K (tCons ta (tCons tb tNil))) (gTwo K i j) tt te vs) σ H (pick c g (xs.zip ys)) := fun H0 e Q q => h1 H0 e _ fun a H1 na e1 ha => h2 H1 (e.trans e1) _ fun H2 e2 =>
  ⟨a, b, xs, ys, rfl, Or.inr ⟨st_of (e2 _ _ ha), ex_t ((e.trans e1).trans e2) hy, fun D hD => lc_pairs (walkTT hl) hl hz c g hD (fun H' e3 => ⟨st_of (e3 _ _ (e2 _ _ ha)), ex_t (((e.trans e1).trans e2).trans e3) hy⟩) hw
    (fun x y H' e3 m => ht x y H' (((e.trans e1).trans e2).trans e3) m) (fun x y H' e3 m hc => he x y H' (((e.trans e1).trans e2).trans e3) m hc) fun H' e3 h3 => q D H' (fresh_back (e1.trans e2) hD) ((e1.trans e2).trans e3) h3⟩⟩
end
theorem tyx_tup {K : PySem.W.Frag} {H : Hp} {a : Addr} {xs : List V} (h : SqT K H a xs) : TyX K H (.ref a) (.type "tuple") := by
  rcases h with (h | ⟨o, h⟩) | ⟨o, its, n, h, c, _⟩
  · exact .base (.tup h)
  · exact .fTuple h
  · exact .kTuple h c
theorem tyx_lst {K : PySem.W.Frag} {H : Hp} {a : Addr} {xs : List V} (h : H a = some (.lst xs)) : TyX K H (.ref a) (.type "list") := .base (.lst h)
theorem get_int {xs : List Int} {i : Nat} {v : V} (h : (xs.map V.int)[i]? = some v) : ∃ x, v = .int x ∧ xs[i]? = some x ∧ x ∈ xs := by
  rw [List.getElem?_map] at h
  cases e : xs[i]? with
  | none =>
    rw [e] at h
    cases h
  | some x =>
    rw [e] at h
    cases h
    exact ⟨x, rfl, rfl, List.mem_of_getElem? e⟩
def lowB (xs ys : List Int) : Bool := (xs.zip ys).all fun p => decide (p.1 ≤ p.2)
theorem lowB_iff {xs ys : List Int} : lowB xs ys = true ↔ ∀ p ∈ xs.zip ys, p.1 ≤ p.2 := by
  unfold lowB
  simp only [List.all_eq_true, decide_eq_true_eq]
theorem zipI_mem {xs ys : List Int} {i : Nat} {x y : Int} (hx : xs[i]? = some x) (hy : ys[i]? = some y) : (x, y) ∈ xs.zip ys := by
  have h : (xs.zip ys)[i]? = some (x, y) := by
    rw [List.getElem?_zip_eq_some]
    exact ⟨hx, hy⟩
  exact List.mem_of_getElem? h
theorem zipI_next {xs ys : List Int} {i : Nat} {x y : Int} (hx : xs[i]? = some x) (hy : ys[i]? = some y) : (xs.zip ys).take (i + 1) = (xs.zip ys).take i ++ [(x, y)] := by
  have h : (xs.zip ys)[i]? = some (x, y) := by
    rw [List.getElem?_zip_eq_some]
    exact ⟨hx, hy⟩
  rw [List.take_add_one, h]
  rfl
def maxL (xs ys : List Int) : List Int := (xs.zip ys).map fun p => max p.1 p.2
def minL (xs ys : List Int) : List Int := (xs.zip ys).map fun p => min p.1 p.2
def lackI (xs ys : List Int) : Int := (((xs.zip ys).filter fun p => decide (p.1 < p.2)).map fun p => p.2 - p.1).sum
def tearI (xs ys : List Int) : Int := ((xs.zip ys).map fun p => max 0 (p.2 - p.1)).sum
theorem maxL_len {xs ys : List Int} (h : xs.length = ys.length) : (maxL xs ys).length = xs.length := by
  unfold maxL
  rw [List.length_map, List.length_zip]
  omega
theorem minL_len {xs ys : List Int} (h : xs.length = ys.length) : (minL xs ys).length = xs.length := by
  unfold minL
  rw [List.length_map, List.length_zip]
  omega
theorem maxL_cons (x y : Int) (xs ys : List Int) : maxL (x :: xs) (y :: ys) = max x y :: maxL xs ys := rfl
theorem minL_cons (x y : Int) (xs ys : List Int) : minL (x :: xs) (y :: ys) = min x y :: minL xs ys := rfl
theorem lowB_cons (x y : Int) (xs ys : List Int) : lowB (x :: xs) (y :: ys) = (decide (x ≤ y) && lowB xs ys) := rfl
theorem tearI_cons (x y : Int) (xs ys : List Int) : tearI (x :: xs) (y :: ys) = max 0 (y - x) + tearI xs ys := by
  unfold tearI
  rw [List.zip_cons_cons, List.map_cons, List.sum_cons]
theorem tearI_nil (ys : List Int) : tearI [] ys = 0 := rfl
theorem tearI_nil2 (xs : List Int) : tearI xs [] = 0 := by
  unfold tearI
  rw [List.zip_nil_right]
  rfl
theorem lackI_eq : ∀ xs ys : List Int, lackI xs ys = tearI xs ys
  | [], ys => rfl
  | x :: xs, [] => rfl
  | x :: xs, y :: ys => by
    have ih := lackI_eq xs ys
    rw [tearI_cons, ← ih]
    unfold lackI
    rw [List.zip_cons_cons, List.filter_cons]
    by_cases h : x < y
    · rw [if_pos (decide_eq_true h), List.map_cons, List.sum_cons]
      show (y - x) + _ = _
      omega
    · rw [if_neg (by rw [decide_eq_false h]; decide)]
      omega
theorem tearI_nonneg : ∀ xs ys : List Int, 0 ≤ tearI xs ys
  | [], ys => by rw [tearI_nil]; decide
  | x :: xs, [] => by rw [tearI_nil2]; decide
  | x :: xs, y :: ys => by
    have ih := tearI_nonneg xs ys
    rw [tearI_cons]
    omega
theorem low_max : ∀ xs ys zs : List Int, xs.length = ys.length → lowB (maxL xs ys) zs = (lowB xs zs && lowB ys zs)
  | [], ys, zs, h => by
    cases ys with
    | nil => rfl
    | cons y ys => cases h
  | x :: xs, [], zs, h => by cases h
  | x :: xs, y :: ys, [], _ => rfl
  | x :: xs, y :: ys, z :: zs, h => by
    have ih := low_max xs ys zs (Nat.succ.inj h)
    have h1 : decide (max x y ≤ z) = (decide (x ≤ z) && decide (y ≤ z)) := by
      rw [Bool.eq_iff_iff, Bool.and_eq_true, decide_eq_true_eq, decide_eq_true_eq, decide_eq_true_eq]
      omega
    rw [maxL_cons, lowB_cons, lowB_cons, lowB_cons, ih, h1]
    cases decide (x ≤ z) <;> cases decide (y ≤ z) <;> cases lowB xs zs <;> cases lowB ys zs <;> rfl
theorem low_min : ∀ xs ys zs : List Int, xs.length = ys.length → lowB zs (minL xs ys) = (lowB zs xs && lowB zs ys)
  | [], ys, zs, h => by
    cases ys with
    | nil => cases zs <;> rfl
    | cons y ys => cases h
  | x :: xs, [], zs, h => by cases h
  | x :: xs, y :: ys, [], _ => rfl
  | x :: xs, y :: ys, z :: zs, h => by
    have ih := low_min xs ys zs (Nat.succ.inj h)
    have h1 : decide (z ≤ min x y) = (decide (z ≤ x) && decide (z ≤ y)) := by
      rw [Bool.eq_iff_iff, Bool.and_eq_true, decide_eq_true_eq, decide_eq_true_eq, decide_eq_true_eq]
      omega
    rw [minL_cons, lowB_cons, lowB_cons, lowB_cons, ih, h1]
    cases decide (z ≤ x) <;> cases decide (z ≤ y) <;> cases lowB zs xs <;> cases lowB zs ys <;> rfl
theorem tear_max : ∀ xs ys : List Int, tearI xs (maxL xs ys) = tearI xs ys
  | [], ys => rfl
  | x :: xs, [] => rfl
  | x :: xs, y :: ys => by
    have ih := tear_max xs ys
    rw [maxL_cons, tearI_cons, tearI_cons, ih]
    omega
theorem tear_min : ∀ xs ys : List Int, tearI (minL xs ys) ys = tearI xs ys
  | [], ys => rfl
  | x :: xs, [] => by rw [tearI_nil2, tearI_nil2]
  | x :: xs, y :: ys => by
    have ih := tear_min xs ys
    rw [minL_cons, tearI_cons, tearI_cons, ih]
    omega
theorem tear_zero : ∀ xs ys : List Int, decide (tearI xs ys = 0) = lowB ys xs
  | [], ys => by cases ys <;> rfl
  | x :: xs, [] => by rw [tearI_nil2]; rfl
  | x :: xs, y :: ys => by
    have ih := tear_zero xs ys
    have h0 := tearI_nonneg xs ys
    rw [tearI_cons, lowB_cons, ← ih]
    rw [Bool.eq_iff_iff]
    simp only [Bool.and_eq_true, decide_eq_true_eq]
    omega
theorem tear_tri : ∀ xs ys zs : List Int, xs.length = ys.length → ys.length = zs.length → tearI xs zs ≤ tearI xs ys + tearI ys zs
  | [], ys, zs, _, _ => by
    have h1 := tearI_nonneg ys zs
    rw [tearI_nil, tearI_nil]
    omega
  | x :: xs, [], zs, h, _ => by cases h
  | x :: xs, y :: ys, [], _, h => by cases h
  | x :: xs, y :: ys, z :: zs, h1, h2 => by
    have ih := tear_tri xs ys zs (Nat.succ.inj h1) (Nat.succ.inj h2)
    rw [tearI_cons, tearI_cons, tearI_cons]
    omega
theorem tear_sum : ∀ xs ys zs : List Int, xs.length = ys.length → ys.length = zs.length → lowB xs ys = true → lowB ys zs = true → tearI xs zs = tearI xs ys + tearI ys zs
  | [], ys, zs, h1, h2, _, _ => by
    cases ys with
    | nil => rfl
    | cons y ys => cases h1
  | x :: xs, [], zs, h, _, _, _ => by cases h
  | x :: xs, y :: ys, [], _, h, _, _ => by cases h
  | x :: xs, y :: ys, z :: zs, h1, h2, l1, l2 => by
    rw [lowB_cons, Bool.and_eq_true, decide_eq_true_eq] at l1 l2
    have ih := tear_sum xs ys zs (Nat.succ.inj h1) (Nat.succ.inj h2) l1.2 l2.2
    rw [tearI_cons, tearI_cons, tearI_cons, ih]
    omega
theorem ear_zip {xs ys : List Int} {f : Int → Int → Int} (h1 : EarL xs) (h2 : EarL ys) (hf : ∀ x y : Int, 0 ≤ x ∧ x ≤ 9 → 0 ≤ y ∧ y ≤ 9 → 0 ≤ f x y ∧ f x y ≤ 9) : EarL ((xs.zip ys).map fun p => f p.1 p.2) := by
  refine ⟨by rw [List.length_map, List.length_zip, h1.1, h2.1]; rfl, fun z hz => ?_⟩
  obtain ⟨p, hp, rfl⟩ := List.mem_map.mp hz
  have m := List.of_mem_zip hp
  exact hf _ _ (h1.2 _ m.1) (h2.2 _ m.2)
theorem ear_max {xs ys : List Int} (h1 : EarL xs) (h2 : EarL ys) : EarL (maxL xs ys) := ear_zip h1 h2 (fun x y _ _ => by omega)
theorem ear_min {xs ys : List Int} (h1 : EarL xs) (h2 : EarL ys) : EarL (minL xs ys) := ear_zip h1 h2 (fun x y _ _ => by omega)
/-! ### numbers of ears -/
def wT : List Int := [100000, 10000, 1000, 100, 10, 1]
def numI (xs : List Int) : Int := ((xs.zip wT).map fun p => p.1 * p.2).sum
def digs (n : Int) : List Int := wT.map fun w => n / w % 10
def lessI : List Int → List Int → Bool
  | x :: xs, y :: ys => if x = y then lessI xs ys else decide (x < y)
  | _, _ => false
theorem six {xs : List Int} (h : EarL xs) : ∃ a b c d e f : Int, xs = [a, b, c, d, e, f] ∧ (0 ≤ a ∧ a ≤ 9) ∧ (0 ≤ b ∧ b ≤ 9) ∧ (0 ≤ c ∧ c ≤ 9) ∧ (0 ≤ d ∧ d ≤ 9) ∧ (0 ≤ e ∧ e ≤ 9) ∧ 0 ≤ f ∧ f ≤ 9 := by
  obtain ⟨hl, hb⟩ := h
  match xs, hl with
  | [a, b, c, d, e, f], _ => exact ⟨a, b, c, d, e, f, rfl, hb a (by simp), hb b (by simp), hb c (by simp), hb d (by simp), hb e (by simp), hb f (by simp)⟩
theorem numI_six (a b c d e f : Int) : numI [a, b, c, d, e, f] = a * 100000 + b * 10000 + c * 1000 + d * 100 + e * 10 + f := by
  show (a * 100000 + (b * 10000 + (c * 1000 + (d * 100 + (e * 10 + (f * 1 + 0)))))) = _
  omega
theorem numI_in {xs : List Int} (h : EarL xs) : 0 ≤ numI xs ∧ numI xs ≤ 999999 := by
  obtain ⟨a, b, c, d, e, f, rfl, _⟩ := six h
  rw [numI_six]
  omega
theorem digs_num {xs : List Int} (h : EarL xs) : digs (numI xs) = xs := by
  obtain ⟨a, b, c, d, e, f, rfl, ha, hb, hc, hd, he, hf⟩ := six h
  rw [numI_six]
  unfold digs wT
  simp only [List.map_cons, List.map_nil, List.cons.injEq, and_true]
  refine ⟨?_, ?_, ?_, ?_, ?_, ?_⟩ <;> omega
theorem less_num {xs ys : List Int} (h : EarL xs) (k : EarL ys) : decide (numI xs < numI ys) = lessI xs ys := by
  obtain ⟨a, b, c, d, e, f, rfl, ha, hb, hc, hd, he, hf⟩ := six h
  obtain ⟨a', b', c', d', e', f', rfl, ha', hb', hc', hd', he', hf'⟩ := six k
  rw [numI_six, numI_six]
  simp only [lessI]
  repeat' split
  all_goals (first | (rw [decide_eq_false]; omega) | (rw [decide_eq_decide]; omega))
theorem wT_in {x : Int} (m : x ∈ wT) : 0 < x ∧ x < 1073741824 := by
  have m' : x = 100000 ∨ x = 10000 ∨ x = 1000 ∨ x = 100 ∨ x = 10 ∨ x = 1 := by simpa [wT] using m
  omega
theorem four_at (y : Int) : ∃ v : Int, atI ([0, 0 - 1, 999999, 1000000].map V.int) (y % 4) = some (.int v) := by
  have h : (y % 4).toNat < ([0, 0 - 1, 999999, 1000000] : List Int).length := by
    show (y % 4).toNat < 4
    omega
  exact ⟨[0, 0 - 1, 999999, 1000000][(y % 4).toNat], at_of (j := (y % 4).toNat) (by omega) (by rw [List.getElem?_map, List.getElem?_eq_getElem h]; rfl)⟩
end Ear

namespace Ear
open PySem PySem.Spec PyProof.Rows L2 Evl RZ
/-! ### the text -/
def topS (i : Nat) : Stmt := PySem.Challenge.pw_earmarks_k08_tears_between.main.body.getD i (.Pass ⟨0, 0, 0, 0⟩)
abbrev s_row : Stmt := topS 7
abbrev s_ear_by : Stmt := topS 8
abbrev s_ear : Stmt := topS 9
abbrev s_near : Stmt := topS 11
abbrev s_other_ear : Stmt := topS 12
abbrev s_lacks : Stmt := topS 4
abbrev s_cell : Stmt := topS 10
abbrev s_deeper : Stmt := topS 1
abbrev s_whole : Stmt := topS 13
abbrev s_like : Stmt := topS 14
abbrev s_apart : Stmt := topS 5
abbrev s_tears : Stmt := topS 15
abbrev s_far : Stmt := topS 16
abbrev s_joint : Stmt := topS 2
abbrev s_common : Stmt := topS 3
abbrev s_law : Stmt := topS 17
theorem sc_row : FnScope ["_law_cell_here", "_law_many", "_law_base", "_law_found", "_law_k", "_law_turn"] ["_law_cell_here", "_law_many", "_law_base"] (defScope s_row) := ⟨rfl, rfl, rfl, by decide +kernel, rfl, by decide +kernel, by decide +kernel⟩
theorem sc_ear_by : FnScope ["_law_figures", "_law_mode", "_law_figure"] ["_law_figures", "_law_mode"] (defScope s_ear_by) := ⟨rfl, rfl, rfl, by decide +kernel, rfl, by decide +kernel, by decide +kernel⟩
theorem sc_ear : FnScope ["_law_cell_here", "_law_figures"] ["_law_cell_here"] (defScope s_ear) := ⟨rfl, rfl, rfl, by decide +kernel, rfl, by decide +kernel, by decide +kernel⟩
theorem sc_near : FnScope ["_law_ear_here", "_law_figures", "_law_found", "_law_depth", "_law_figure", "_law_more"] ["_law_ear_here", "_law_figures"] (defScope s_near) := ⟨rfl, rfl, rfl, by decide +kernel, rfl, by decide +kernel, by decide +kernel⟩
theorem sc_other_ear : FnScope ["_law_ear_here", "_law_cell_here", "_law_figures"] ["_law_ear_here", "_law_cell_here"] (defScope s_other_ear) := ⟨rfl, rfl, rfl, by decide +kernel, rfl, by decide +kernel, by decide +kernel⟩
theorem sc_lacks : FnScope ["one", "other", "here", "there"] ["one", "other"] (defScope s_lacks) := ⟨rfl, rfl, rfl, by decide +kernel, rfl, by decide +kernel, by decide +kernel⟩
theorem sc_cell : FnScope ["_law_script", "_law_k"] ["_law_script", "_law_k"] (defScope s_cell) := ⟨rfl, rfl, rfl, by decide +kernel, rfl, by decide +kernel, by decide +kernel⟩
theorem sc_deeper : FnScope ["shallow", "deep", "low", "high"] ["shallow", "deep"] (defScope s_deeper) := ⟨rfl, rfl, rfl, by decide +kernel, rfl, by decide +kernel, by decide +kernel⟩
theorem sc_whole : FnScope ["_law_found"] ["_law_found"] (defScope s_whole) := ⟨rfl, rfl, rfl, by decide +kernel, rfl, by decide +kernel, by decide +kernel⟩
theorem sc_like : FnScope ["_law_found", "_law_due", "_law_one", "_law_other"] ["_law_found", "_law_due"] (defScope s_like) := ⟨rfl, rfl, rfl, by decide +kernel, rfl, by decide +kernel, by decide +kernel⟩
theorem sc_apart : FnScope ["one", "other"] ["one", "other"] (defScope s_apart) := ⟨rfl, rfl, rfl, by decide +kernel, rfl, by decide +kernel, by decide +kernel⟩
theorem sc_tears : FnScope ["_law_one", "_law_other", "_law_a", "_law_b"] ["_law_one", "_law_other"] (defScope s_tears) := ⟨rfl, rfl, rfl, by decide +kernel, rfl, by decide +kernel, by decide +kernel⟩
theorem sc_far : FnScope ["_law_one", "_law_other"] ["_law_one", "_law_other"] (defScope s_far) := ⟨rfl, rfl, rfl, by decide +kernel, rfl, by decide +kernel, by decide +kernel⟩
theorem sc_joint : FnScope ["one", "other", "here", "there"] ["one", "other"] (defScope s_joint) := ⟨rfl, rfl, rfl, by decide +kernel, rfl, by decide +kernel, by decide +kernel⟩
theorem sc_common : FnScope ["one", "other", "here", "there"] ["one", "other"] (defScope s_common) := ⟨rfl, rfl, rfl, by decide +kernel, rfl, by decide +kernel, by decide +kernel⟩
theorem sc_law : FnScope ["_law_script", "_law_one", "_law_other", "_law_found"] ["_law_script"] (defScope s_law) := ⟨rfl, rfl, rfl, by decide +kernel, rfl, by decide +kernel, by decide +kernel⟩
structure Txt (K : PySem.W.Frag) (mg : Str → Option Value) where
  f_row : Addr
  fd_row : FuncData
  F_row : Fun K "_law_row" "_law_row" s_row f_row fd_row
  b_row : Binds K fd_row ["_law_cell_here", "_law_many", "_law_base"] []
  g_row : mg "_law_row" = some (.ref f_row)
  f_ear_by : Addr
  fd_ear_by : FuncData
  F_ear_by : Fun K "_law_ear_by" "_law_ear_by" s_ear_by f_ear_by fd_ear_by
  b_ear_by : Binds K fd_ear_by ["_law_figures", "_law_mode"] []
  g_ear_by : mg "_law_ear_by" = some (.ref f_ear_by)
  f_ear : Addr
  fd_ear : FuncData
  F_ear : Fun K "_law_ear" "_law_ear" s_ear f_ear fd_ear
  b_ear : Binds K fd_ear ["_law_cell_here"] []
  g_ear : mg "_law_ear" = some (.ref f_ear)
  f_near : Addr
  fd_near : FuncData
  F_near : Fun K "_law_near" "_law_near" s_near f_near fd_near
  b_near : Binds K fd_near ["_law_ear_here", "_law_figures"] []
  g_near : mg "_law_near" = some (.ref f_near)
  f_other_ear : Addr
  fd_other_ear : FuncData
  F_other_ear : Fun K "_law_other_ear" "_law_other_ear" s_other_ear f_other_ear fd_other_ear
  b_other_ear : Binds K fd_other_ear ["_law_ear_here", "_law_cell_here"] []
  g_other_ear : mg "_law_other_ear" = some (.ref f_other_ear)
  f_lacks : Addr
  fd_lacks : FuncData
  F_lacks : Fun K "lacks" "lacks" s_lacks f_lacks fd_lacks
  b_lacks : Binds K fd_lacks ["one", "other"] []
  g_lacks : mg "lacks" = some (.ref f_lacks)
  f_cell : Addr
  fd_cell : FuncData
  F_cell : Fun K "_law_cell" "_law_cell" s_cell f_cell fd_cell
  b_cell : Binds K fd_cell ["_law_script", "_law_k"] []
  g_cell : mg "_law_cell" = some (.ref f_cell)
  f_deeper : Addr
  fd_deeper : FuncData
  F_deeper : Fun K "deeper" "deeper" s_deeper f_deeper fd_deeper
  b_deeper : Binds K fd_deeper ["shallow", "deep"] []
  g_deeper : mg "deeper" = some (.ref f_deeper)
  f_whole : Addr
  fd_whole : FuncData
  F_whole : Fun K "_law_whole" "_law_whole" s_whole f_whole fd_whole
  b_whole : Binds K fd_whole ["_law_found"] []
  g_whole : mg "_law_whole" = some (.ref f_whole)
  f_like : Addr
  fd_like : FuncData
  F_like : Fun K "_law_like" "_law_like" s_like f_like fd_like
  b_like : Binds K fd_like ["_law_found", "_law_due"] []
  g_like : mg "_law_like" = some (.ref f_like)
  f_apart : Addr
  fd_apart : FuncData
  F_apart : Fun K "apart" "apart" s_apart f_apart fd_apart
  b_apart : Binds K fd_apart ["one", "other"] []
  g_apart : mg "apart" = some (.ref f_apart)
  f_tears : Addr
  fd_tears : FuncData
  F_tears : Fun K "_law_tears" "_law_tears" s_tears f_tears fd_tears
  b_tears : Binds K fd_tears ["_law_one", "_law_other"] []
  g_tears : mg "_law_tears" = some (.ref f_tears)
  f_far : Addr
  fd_far : FuncData
  F_far : Fun K "_law_far" "_law_far" s_far f_far fd_far
  b_far : Binds K fd_far ["_law_one", "_law_other"] []
  g_far : mg "_law_far" = some (.ref f_far)
  f_joint : Addr
  fd_joint : FuncData
  F_joint : Fun K "joint" "joint" s_joint f_joint fd_joint
  b_joint : Binds K fd_joint ["one", "other"] []
  g_joint : mg "joint" = some (.ref f_joint)
  f_common : Addr
  fd_common : FuncData
  F_common : Fun K "common" "common" s_common f_common fd_common
  b_common : Binds K fd_common ["one", "other"] []
  g_common : mg "common" = some (.ref f_common)
  f_law : Addr
  fd_law : FuncData
  F_law : Fun K "law" "law" s_law f_law fd_law
  b_law : Binds K fd_law ["_law_script"] []
  g_law : mg "law" = some (.ref f_law)
  m_abs : mg "abs" = none
  m_range : mg "range" = none
  m_tuple : mg "tuple" = none
  m_max : mg "max" = none
  m_zip : mg "zip" = none
  m_min : mg "min" = none
  m_sum : mg "sum" = none
  m_len : mg "len" = none
  m_all : mg "all" = none
  m_isinstance : mg "isinstance" = none
  m_bool : mg "bool" = none
  m_int : mg "int" = none
  m_str : mg "str" = none
  m_list : mg "list" = none

section
variable {P : Program} {w : World} {K : PySem.W.Frag} {mg : Str → Option Value} {base : Heap}
/-! _law_row -/

def sp_row (K : PySem.W.Frag) : Sp := fun vs H Q _ => ∃ c many b : Int, vs = [.int c, .int many, .int b] ∧ (0 ≤ many ∧ many ≤ 1000) ∧ (0 < b ∧ b < 1000000) ∧
  ∀ (p : Addr) (H' : Hp) (xs : List Int), Ex H H' → H' p = some (.lst (xs.map V.int)) → (xs.length : Int) = many → (∀ x ∈ xs, 0 ≤ x ∧ x < b) → Q (.ref p) H'
theorem ok_row (T : Txt K mg) : FnOk P w K mg base CX0 1 T.f_row T.fd_row ["_law_cell_here", "_law_many", "_law_base"] (sp_row K) := by
  refine T.F_row.ok sc_row (fun vs H Q E h => ?_) (fun cdv A outer s H vs Q E hr h => ?_)

  · obtain ⟨c, many, b, rfl, _⟩ := h
    rfl
  · obtain ⟨c, many, b, rfl, hm, hb, q⟩ := h
    refine ⟨_, (pss_cons (ps_set (i := 3) sc_row.nd rfl (Or.inl rfl) (pe_lst pa_nil))
      (pss_cons (ps_set (i := 0) sc_row.nd rfl (Or.inl rfl) (pe_callB call_abs (by rfl) T.m_abs (by decide +kernel) (pa_cons (pv 0) pa_nil)))
      (pss_cons (ps_if (pt_cmpR op_ge (pv 0) (pe_op op_pow pe_int pe_int) (nomark _)) (pss_cons (ps_for PassesOwn.never rfl (pi_range1 (by rfl) T.m_range (pa_cons (pv 1) pa_nil)) (pg_name (i := 4) sc_row.nd rfl (Or.inl rfl)) (pss_cons (ps_expr (pe_bm PySem.F.plainAttrs_list PySem.F.slot_list_append PySem.F.type_list_append mt_append (pv 3) (pa_cons (pe_op op_mod (pv 0) (pv 2)) pa_nil)))
      (pss_one (ps_set (i := 0) sc_row.nd rfl (Or.inl rfl) (pe_op op_fdiv (pv 0) (pv 2))))))
      (pss_one (ps_ret (pv 3)))) pss_nil)
      (pss_cons (ps_set (i := 5) sc_row.nd rfl (Or.inl rfl) (pe_op op_mod (pe_op op_mul (pe_op op_add (pe_op op_mod (pv 0) pe_int) pe_int) pe_int) pe_int))
      (pss_cons (ps_for PassesOwn.never rfl (pi_range1 (by rfl) T.m_range (pa_cons (pv 1) pa_nil)) (pg_name (i := 4) sc_row.nd rfl (Or.inl rfl)) (pss_cons (ps_set (i := 5) sc_row.nd rfl (Or.inl rfl) (pe_op op_mod (pe_op op_add (pe_op op_add (pe_op op_mul (pv 5) pe_int) (pe_op op_mul pe_int (pv 4))) pe_int) pe_int))
      (pss_one (ps_expr (pe_bm PySem.F.plainAttrs_list PySem.F.slot_list_append PySem.F.type_list_append mt_append (pv 3) (pa_cons (pe_op op_mod (pe_op op_fdiv (pv 5) pe_int) (pv 2)) pa_nil))))))
      (pss_one (ps_ret (pv 3)))))))), ?_⟩
    refine ⟨Nat.zero_le _, fun p np => ?_⟩
    refine ⟨_, rfl, _, rfl, ?_⟩
    refine ⟨_, rfl, _, _, rfl, rfl, ⟨by decide, by decide, by decide⟩, _, _, rfl, rfl, _, rfl, ite2 (fun _ => ?_) (fun _ => ?_)⟩
    · refine q_forR1 (n := many) (ea_cons (ev_var rfl) ea_nil) ⟨by omega, by omega⟩ (fun i σ' H' => ∃ (c' : Int) (k' t' : Option V) (xs : List Int), σ' = [some (.int c'), some (.int many), some (.int b), some (.ref p), k', t'] ∧ Ex H H' ∧ H' p = some (.lst (xs.map V.int)) ∧ xs.length = i ∧ ∀ x ∈ xs, 0 ≤ x ∧ x < b) ?_ ?_ ?_
      · intro H1 e1
        exact ⟨_, _, _, [], rfl, (Ex.new np).trans e1, e1 _ _ upd_same, rfl, by simp⟩
      · rintro i σ' H' hi ⟨c', k', t', xs, rfl, e1, h1, hl, hx⟩
        refine ⟨_, rfl, .inl ⟨rfl, _, SqL.of h1⟩, _, rfl, _, rfl, _, _, rfl, rfl, hb.1, p, _, _, rfl, rfl, h1, sz_lt ?_, ?_⟩
        · rw [List.length_map]
          omega
        · refine ⟨_, rfl, _, rfl, _, _, rfl, rfl, ⟨hb.1, by omega⟩, ?_⟩
          refine ⟨_, _, _, xs ++ [c' % b], rfl, Ex.mut e1 np, ?_, by simp [hl], ?_⟩
          · rw [upd_same, List.map_append]
            rfl
          · intro x hx'
            rcases List.mem_append.mp hx' with m | m
            · exact hx x m
            · rw [List.mem_singleton.mp m]
              exact ⟨Int.emod_nonneg _ (by omega), Int.emod_lt_of_pos _ hb.1⟩
      · rintro σ' H' ⟨c', k', t', xs, rfl, e1, h1, hl, hx⟩
        exact ⟨_, rfl, q p H' xs e1 h1 (by omega) hx⟩
    · refine ⟨_, rfl, _, _, rfl, rfl, (by show (0 : Int) < 1000003; decide), _, _, rfl, rfl, _, _, rfl, rfl, .inl ⟨?_, ?_⟩, _, _, rfl, rfl, (by show (0 : Int) < 2147483647; decide), ?_⟩
      · omega
      · omega
      refine q_forR1 (n := many) (ea_cons (ev_var rfl) ea_nil) ⟨by omega, by omega⟩ (fun i σ' H' => ∃ (c' t' : Int) (k' : Option V) (xs : List Int), σ' = [some (.int c'), some (.int many), some (.int b), some (.ref p), k', some (.int t')] ∧ (0 ≤ t' ∧ t' < 2147483647) ∧ Ex H H' ∧ H' p = some (.lst (xs.map V.int)) ∧ xs.length = i ∧ ∀ x ∈ xs, 0 ≤ x ∧ x < b) ?_ ?_ ?_
      · intro H1 e1
        exact ⟨_, _, _, [], rfl, ⟨by omega, by omega⟩, (Ex.new np).trans e1, e1 _ _ upd_same, rfl, by simp⟩
      · rintro i σ' H' hi ⟨c', t', k', xs, rfl, ht, e1, h1, hl, hx⟩
        refine ⟨_, rfl, _, _, rfl, rfl, .inl ⟨by omega, by omega⟩, _, rfl, _, _, rfl, rfl, .inl ⟨by decide, by decide⟩, _, _, rfl, rfl, _, _, rfl, rfl, _, _, rfl, rfl, (by show (0 : Int) < 2147483647; decide), ?_⟩
        refine ⟨_, rfl, .inl ⟨rfl, _, SqL.of h1⟩, _, rfl, _, _, rfl, rfl, ⟨by decide, by decide⟩, _, rfl, _, _, rfl, rfl, hb.1, p, _, _, rfl, rfl, h1, sz_lt ?_, ?_⟩
        · rw [List.length_map]
          omega
        · refine ⟨_, _, _, xs ++ [(t' * 48271 + 9973 * (i : Int) + 11) % 2147483647 / 1021 % b], rfl, ⟨by omega, by omega⟩, Ex.mut e1 np, ?_, by simp [hl], ?_⟩
          · rw [upd_same, List.map_append]
            rfl
          · intro x hx'
            rcases List.mem_append.mp hx' with m | m
            · exact hx x m
            · rw [List.mem_singleton.mp m]
              exact ⟨Int.emod_nonneg _ (by omega), Int.emod_lt_of_pos _ hb.1⟩
      · rintro σ' H' ⟨c', t', k', xs, rfl, ht, e1, h1, hl, hx⟩
        exact ⟨_, rfl, q p H' xs e1 h1 (by omega) hx⟩
/-! _law_ear_by -/

def sp_ear_by (K : PySem.W.Frag) : Sp := fun vs H Q _ => ∃ (a : Addr) (xs : List Int) (m : Int), vs = [.ref a, .int m] ∧ SqL K H a (xs.map V.int) ∧ EarL xs ∧ ∀ (p : Addr) (H' : Hp) (zs : List Int), Ex H H' → H' p = some (.tup (zs.map V.int)) → EarL zs → Q (.ref p) H'
theorem ok_ear_by (T : Txt K mg) : FnOk P w K mg base CX0 1 T.f_ear_by T.fd_ear_by ["_law_figures", "_law_mode"] (sp_ear_by K) := by
  refine T.F_ear_by.ok sc_ear_by (fun vs H Q E h => ?_) (fun cdv A outer s H vs Q E hr h => ?_)

  · obtain ⟨a, xs, m, rfl, _⟩ := h
    rfl
  · obtain ⟨a, xs, m, rfl, hS, hx, q⟩ := h
    refine ⟨_, (pss_cons (ps_if (pt_cmpR op_eq (pe_op op_mod (pv 1) pe_int) pe_int (nomark _)) (pss_one (ps_ret (pe_callTy call_tuple_of (by rfl) T.m_tuple (by decide +kernel) (pa_cons (pe_lc (own := [("_law_figure", 2)]) (g := gName 2) (tt := tYes) (by rfl) sc_ear_by.nd (pi_list (pv 0)) (blkOk_by (own := [("_law_figure", 2)]) (N := ["_law_figures", "_law_mode", "_law_figure"]) (sc := defScope s_ear_by) (by decide +kernel)) (fun _ _ _ _ _ => pg_name (i := 2) sc_ear_by.nd rfl (Or.inl rfl)) (fun _ _ _ _ _ => pts_nil) (fun _ _ _ _ _ => (pe_callB (call_max2 rfl) (by rfl) T.m_max (by decide +kernel) (pa_cons pe_int (pa_cons (pe_op op_sub (pv 2) pe_int) pa_nil))))) pa_nil)))) pss_nil)
      (pss_cons (ps_if (pt_cmpR op_eq (pe_op op_mod (pv 1) pe_int) pe_int (nomark _)) (pss_one (ps_ret (pe_callTy call_tuple_of (by rfl) T.m_tuple (by decide +kernel) (pa_cons (pe_lc (own := [("_law_figure", 2)]) (g := gName 2) (tt := tYes) (by rfl) sc_ear_by.nd (pi_list (pv 0)) (blkOk_by (own := [("_law_figure", 2)]) (N := ["_law_figures", "_law_mode", "_law_figure"]) (sc := defScope s_ear_by) (by decide +kernel)) (fun _ _ _ _ _ => pg_name (i := 2) sc_ear_by.nd rfl (Or.inl rfl)) (fun _ _ _ _ _ => pts_nil) (fun _ _ _ _ _ => (pe_op op_mod (pv 2) pe_int))) pa_nil)))) pss_nil)
      (pss_one (ps_ret (pe_callTy call_tuple_of (by rfl) T.m_tuple (by decide +kernel) (pa_cons (pv 0) pa_nil)))))), ?_⟩
    have h6 : xs.length ≤ 1000 := by
      have := hx.1
      omega
    refine ⟨_, rfl, _, _, rfl, rfl, (by show (0 : Int) < 4; decide), rfl, _, rfl, ite2 (fun _ => ?_) (fun _ => ?_)⟩
    · refine s_retU (eu_tuple (em_ints (fun x => .int (max 0 (x - 7))) (ev_var rfl) hS h6 (fun _ => rfl) (fun x _ H1 _ => ev_max ev_c (ev_op (ev_var rfl) ev_c rv_I0)))) fun p H1 _ e1 h1 => q p H1 (xs.map fun x => max 0 (x - 7)) e1 (by rw [List.map_map]; exact h1) ⟨by simp [hx.1], ?_⟩
      intro y hy
      obtain ⟨x, mx, rfl⟩ := List.mem_map.mp hy
      have := hx.2 x mx
      omega
    refine ⟨_, rfl, _, _, rfl, rfl, (by show (0 : Int) < 4; decide), rfl, _, rfl, ite2 (fun _ => ?_) (fun _ => ?_)⟩
    · refine s_retU (eu_tuple (em_ints (fun x => .int (x % 3)) (ev_var rfl) hS h6 (fun _ => rfl) (fun x _ H1 _ => ev_op (ev_var rfl) ev_c (rv_I (by show (0 : Int) < 3; decide))))) fun p H1 _ e1 h1 => q p H1 (xs.map fun x => x % 3) e1 (by rw [List.map_map]; exact h1) ⟨by simp [hx.1], ?_⟩
      intro y hy
      obtain ⟨x, mx, rfl⟩ := List.mem_map.mp hy
      have := hx.2 x mx
      omega
    · exact s_retU (eu_tupleL (ev_var rfl) hS) fun p H1 _ e1 h1 => q p H1 xs e1 h1 hx
/-! _law_ear -/

theorem cut_to (xs : List V) (n : Nat) : cutV xs none (some (n : Int)) = xs.take n := by
  unfold cutV
  rw [HT.sIx_none, show HT.sIx xs.length xs.length (some (n : Int)) = min n xs.length from HT.sIx_nat xs.length xs.length n]
  simp [List.take_eq_take_iff]
theorem six_of {xs : List Int} (hl : (xs.length : Int) = 7) (hb : ∀ x ∈ xs, 0 ≤ x ∧ x < 10) : cutV (xs.map V.int) none (some 6) = (xs.take 6).map V.int ∧ EarL (xs.take 6) ∧ ∃ v, atI (xs.map V.int) 6 = some (.int v) := by
  refine ⟨?_, ⟨by rw [List.length_take]; omega, fun x hx => ?_⟩, ?_⟩
  · rw [List.map_take]
    exact cut_to _ 6
  · have := hb x (List.mem_of_mem_take hx)
    omega
  · have h6 : 6 < xs.length := by omega
    exact ⟨xs[6], at_of (j := 6) rfl (by rw [List.getElem?_map, List.getElem?_eq_getElem h6]; rfl)⟩
def sp_ear (K : PySem.W.Frag) : Sp := fun vs H Q _ => ∃ c : Int, vs = [.int c] ∧ ∀ (p : Addr) (H' : Hp) (zs : List Int), Ex H H' → H' p = some (.tup (zs.map V.int)) → EarL zs → Q (.ref p) H'
theorem ok_ear (T : Txt K mg) : FnOk P w K mg base CX0 2 T.f_ear T.fd_ear ["_law_cell_here"] (sp_ear K) := by
  refine T.F_ear.ok sc_ear (fun vs H Q E h => ?_) (fun cdv A outer s H vs Q E hr h => ?_)

  · obtain ⟨c, rfl, _⟩ := h
    rfl
  · obtain ⟨c, rfl, q⟩ := h
    refine ⟨_, (pss_cons (ps_set (i := 1) sc_ear.nd rfl (Or.inl rfl) (pe_call (ok_row T) (hr.mono (by decide)) (by rfl) T.g_row T.F_row.kp T.b_row .nil pass0 (pa_cons (pv 0) (pa_cons pe_int (pa_cons pe_int pa_nil)))))
      (pss_one (ps_ret (pe_call (ok_ear_by T) (hr.mono (by decide)) (by rfl) T.g_ear_by T.F_ear_by.kp T.b_ear_by .nil pass0 (pa_cons (pe_slice sl_list (pv 1) po_none (po_some pe_int)) (pa_cons (pe_ix ix_list (pv 1) pe_int (fun _ _ => rfl)) pa_nil)))))), ?_⟩
    refine ⟨_, rfl, c, 7, 10, rfl, ⟨by decide, by decide⟩, ⟨by decide, by decide⟩, fun p1 H1 xs e1 h1 hl hb => ?_⟩
    obtain ⟨c6, E6, v, hv⟩ := six_of hl hb
    refine ⟨_, rfl, 6, rfl, p1, _, rfl, sq_of h1, fun p2 n2 => ?_⟩
    have e2 : Ex H1 (upd H1 p2 (.lst (cutV (xs.map V.int) none (some 6)))) := Ex.new n2
    refine ⟨_, rfl, p1, _, 6, _, rfl, rfl, sq_of (e2 _ _ h1), hv, ?_⟩
    exact ⟨p2, xs.take 6, v, rfl, sq_of (by rw [upd_same, c6]), E6, fun p H' zs e3 h3 E3 => q p H' zs ((e1.trans e2).trans e3) h3 E3⟩
/-! _law_near -/

def moreT : List Int := [0, 0, 0, 0, 0, 1, 1, 2, 3, -1]
theorem more_at {y : Int} (h : 0 ≤ y ∧ y ≤ 9) : ∃ m : Int, atI (moreT.map V.int) y = some (.int m) := by
  have h6 : y.toNat < moreT.length := by
    show y.toNat < 10
    omega
  exact ⟨moreT[y.toNat], at_of (j := y.toNat) (by omega) (by rw [List.getElem?_map, List.getElem?_eq_getElem h6]; rfl)⟩
def sp_near (K : PySem.W.Frag) : Sp := fun vs H Q _ => ∃ (a b : Addr) (xs ys : List Int), vs = [.ref a, .ref b] ∧ TpI K H a xs ∧ SqL K H b (ys.map V.int) ∧ EarL xs ∧ EarL ys ∧ ∀ (p : Addr) (H' : Hp) (zs : List Int), Ex H H' → H' p = some (.tup (zs.map V.int)) → EarL zs → Q (.ref p) H'
theorem ok_near (T : Txt K mg) : FnOk P w K mg base CX0 1 T.f_near T.fd_near ["_law_ear_here", "_law_figures"] (sp_near K) := by
  refine T.F_near.ok sc_near (fun vs H Q E h => ?_) (fun cdv A outer s H vs Q E hr h => ?_)

  · obtain ⟨a, b, xs, ys, rfl, _⟩ := h
    rfl
  · obtain ⟨a, b, xs, ys, rfl, hx, hy, Ex6, Ey6, q⟩ := h
    refine ⟨_, (pss_cons (ps_set (i := 2) sc_near.nd rfl (Or.inl rfl) (pe_lst pa_nil))
      (pss_cons (ps_for PassesOwn.never rfl (pi_zipTL (by rfl) T.m_zip (pa_cons (pv 0) (pa_cons (pv 1) pa_nil))) (pg_tup rfl (pgs_cons (pg_name (i := 3) sc_near.nd rfl (Or.inl rfl)) (pgs_cons (pg_name (i := 4) sc_near.nd rfl (Or.inl rfl)) pgs_nil))) (pss_cons (ps_set (i := 5) sc_near.nd rfl (Or.inl rfl) (pe_ix ix_tup (pe_tup (pa_cons pe_int (pa_cons pe_int (pa_cons pe_int (pa_cons pe_int (pa_cons pe_int (pa_cons pe_int (pa_cons pe_int (pa_cons pe_int (pa_cons pe_int (pa_cons (pe_un un_neg pe_int) pa_nil))))))))))) (pv 4) (fun _ _ => rfl)))
      (pss_one (ps_expr (pe_bm PySem.F.plainAttrs_list PySem.F.slot_list_append PySem.F.type_list_append mt_append (pv 2) (pa_cons (pe_callB (call_max2 rfl) (by rfl) T.m_max (by decide +kernel) (pa_cons pe_int (pa_cons (pe_callB (call_min2 rfl) (by rfl) T.m_min (by decide +kernel) (pa_cons pe_int (pa_cons (pe_op op_add (pv 3) (pv 5)) pa_nil))) pa_nil))) pa_nil))))))
      (pss_one (ps_ret (pe_callTy call_tuple_of (by rfl) T.m_tuple (by decide +kernel) (pa_cons (pv 2) pa_nil)))))), ?_⟩
    refine ⟨Nat.zero_le _, fun p np => ?_⟩
    have e1 : Ex H (upd H p (.lst [])) := Ex.new np
    have lx : (xs.map V.int).length = (ys.map V.int).length := by
      rw [List.length_map, List.length_map, Ex6.1, Ey6.1]
    refine ⟨_, rfl, _, rfl, a, b, _, _, rfl, ex_t e1 hx, ex_l e1 hy, for_it (walkTL lx) (fun i σ' H' => ∃ (d' f' m' : Option V) (zs : List Int), σ' = [some (.ref a), some (.ref b), some (.ref p), d', f', m'] ∧ Ex H H' ∧ H' p = some (.lst (zs.map V.int)) ∧ zs.length = i ∧ ∀ z ∈ zs, 0 ≤ z ∧ z ≤ 9) ?_ ?_ ?_ ?_⟩
    · exact ⟨_, _, _, [], rfl, e1, upd_same, rfl, by simp⟩
    · rintro i σ' H' _ ⟨d', f', m', zs, rfl, e2, _⟩
      exact ⟨ex_t e2 hx, ex_l e2 hy⟩
    · rintro i v σ' H' H'' hi ⟨d', f', m', zs, rfl, e2, h2, hl, hz⟩ ⟨T, x, y, rfl, nT, rfl, gx, gy⟩
      obtain ⟨x', rfl, _, mx⟩ := get_int gx
      obtain ⟨y', rfl, _, my⟩ := get_int gy
      have bx := Ex6.2 x' mx
      have hi6 : i < 6 := by
        rw [List.length_map, Ex6.1] at hi
        exact hi
      obtain ⟨m, hm⟩ := more_at (Ey6.2 y' my)
      refine gTwo_of ?_
      have eT : Ex H' (upd H' T (.tup [.int x', .int y'])) := Ex.new nT
      have h3 := eT _ _ h2
      refine ⟨1, rfl, (by show 10 ≤ sizeLine; decide), fun t nt => ⟨_, rfl, t, _, y', .int m, rfl, rfl, st_of upd_same, hm, ?_⟩⟩
      have et := Ex.new (o := .tup (moreT.map V.int)) nt
      have h4 := et _ _ h3
      refine ⟨_, rfl, .inl ⟨rfl, _, SqL.of h4⟩, _, rfl, _, rfl, _, _, rfl, rfl, 9, _, rfl, 0, _, rfl, p, _, _, rfl, rfl, h4, sz_lt ?_, ?_⟩
      · rw [List.length_map]
        omega
      · refine ⟨_, _, _, zs ++ [if (if x' + m < 9 then x' + m else 9) > 0 then if x' + m < 9 then x' + m else 9 else 0], rfl, Ex.mut ((e2.trans eT).trans et) np, ?_, by simp [hl], ?_⟩
        · rw [upd_same, List.map_append]
          rfl
        · intro z hz'
          rcases List.mem_append.mp hz' with mm | mm
          · exact hz z mm
          · rw [List.mem_singleton.mp mm]
            constructor <;> omega
    · rintro σ' H' ⟨d', f', m', zs, rfl, e2, h2, hl, hz⟩
      refine s_retU (eu_tupleL (ev_var rfl) (sq_of h2)) fun p2 H2 _ e3 h3 => q p2 H2 zs (e2.trans e3) h3 ⟨?_, hz⟩
      rw [hl, List.length_map, Ex6.1]
/-! _law_other_ear -/

def sp_other_ear (K : PySem.W.Frag) : Sp := fun vs H Q _ => ∃ (a : Addr) (xs : List Int) (c : Int), vs = [.ref a, .int c] ∧ TpI K H a xs ∧ EarL xs ∧ ∀ (p : Addr) (H' : Hp) (zs : List Int), Ex H H' → H' p = some (.tup (zs.map V.int)) → EarL zs → Q (.ref p) H'
theorem ok_other_ear (T : Txt K mg) : FnOk P w K mg base CX0 2 T.f_other_ear T.fd_other_ear ["_law_ear_here", "_law_cell_here"] (sp_other_ear K) := by
  refine T.F_other_ear.ok sc_other_ear (fun vs H Q E h => ?_) (fun cdv A outer s H vs Q E hr h => ?_)

  · obtain ⟨a, xs, c, rfl, _⟩ := h
    rfl
  · obtain ⟨a, xs, c, rfl, hx, Ex6, q⟩ := h
    refine ⟨_, (pss_cons (ps_set (i := 2) sc_other_ear.nd rfl (Or.inl rfl) (pe_call (ok_row T) (hr.mono (by decide)) (by rfl) T.g_row T.F_row.kp T.b_row .nil pass0 (pa_cons (pv 1) (pa_cons pe_int (pa_cons pe_int pa_nil)))))
      (pss_cons (ps_if (pt_cmpR op_lt (pe_ix ix_list (pv 2) pe_int (fun _ _ => rfl)) pe_int (nomark _)) (pss_one (ps_ret (pe_call (ok_near T) (hr.mono (by decide)) (by rfl) T.g_near T.F_near.kp T.b_near .nil pass0 (pa_cons (pv 0) (pa_cons (pe_slice sl_list (pv 2) po_none (po_some pe_int)) pa_nil))))) pss_nil)
      (pss_one (ps_ret (pe_call (ok_ear_by T) (hr.mono (by decide)) (by rfl) T.g_ear_by T.F_ear_by.kp T.b_ear_by .nil pass0 (pa_cons (pe_slice sl_list (pv 2) po_none (po_some pe_int)) (pa_cons (pe_ix ix_list (pv 2) pe_int (fun _ _ => rfl)) pa_nil))))))), ?_⟩
    refine ⟨_, rfl, c, 7, 10, rfl, ⟨by decide, by decide⟩, ⟨by decide, by decide⟩, fun p1 H1 fs e1 h1 hl hb => ?_⟩
    obtain ⟨c6, E6, v, hv⟩ := six_of hl hb
    refine ⟨_, rfl, p1, _, 6, _, rfl, rfl, sq_of h1, hv, _, _, rfl, rfl, _, rfl, ite2 (fun _ => ?_) (fun _ => ?_)⟩
    · refine ⟨_, rfl, _, rfl, 6, rfl, p1, _, rfl, sq_of h1, fun p2 n2 => ?_⟩
      have e2 : Ex H1 (upd H1 p2 (.lst (cutV (fs.map V.int) none (some 6)))) := Ex.new n2
      exact ⟨a, p2, xs, fs.take 6, rfl, ex_t (e1.trans e2) hx, sq_of (by rw [upd_same, c6]), Ex6, E6, fun p H' zs e3 h3 E3 => q p H' zs ((e1.trans e2).trans e3) h3 E3⟩
    · refine ⟨_, rfl, 6, rfl, p1, _, rfl, sq_of h1, fun p2 n2 => ?_⟩
      have e2 : Ex H1 (upd H1 p2 (.lst (cutV (fs.map V.int) none (some 6)))) := Ex.new n2
      refine ⟨_, rfl, p1, _, 6, _, rfl, rfl, sq_of (e2 _ _ h1), hv, ?_⟩
      exact ⟨p2, fs.take 6, v, rfl, sq_of (by rw [upd_same, c6]), E6, fun p H' zs e3 h3 E3 => q p H' zs ((e1.trans e2).trans e3) h3 E3⟩
/-! lacks -/

def sp_lacks (K : PySem.W.Frag) : Sp := fun vs H Q _ => ∃ (a b : Addr) (xs ys : List Int), vs = [.ref a, .ref b] ∧ TpI K H a xs ∧ TpI K H b ys ∧ xs.length = ys.length ∧ xs.length ≤ 1000 ∧ ∀ H', Ex H H' → Q (.int (tearI xs ys)) H'
theorem ok_lacks (T : Txt K mg) : FnOk P w K mg base CX0 1 T.f_lacks T.fd_lacks ["one", "other"] (sp_lacks K) := by
  refine T.F_lacks.ok sc_lacks (fun vs H Q E h => ?_) (fun cdv A outer s H vs Q E hr h => ?_)

  · obtain ⟨a, b, xs, ys, rfl, _⟩ := h
    rfl
  · obtain ⟨a, b, xs, ys, rfl, hx, hy, hl, hz, q⟩ := h
    refine ⟨_, (pss_one (ps_ret (pe_callB (cr_sum rfl) (by rfl) T.m_sum (by decide +kernel) (pa_cons (pe_lc (own := [("here", 2), ("there", 3)]) (g := gTwo K 2 3) (by rfl) sc_lacks.nd (pi_zipA (by rfl) T.m_zip (pa_cons (pv 0) (pa_cons (pv 1) pa_nil))) (blkOk_by (own := [("here", 2), ("there", 3)]) (N := ["one", "other", "here", "there"]) (sc := defScope s_lacks) (by decide +kernel)) (fun _ _ _ _ _ => pg_tup rfl (pgs_cons (pg_name (i := 2) sc_lacks.nd rfl (Or.inl rfl)) (pgs_cons (pg_name (i := 3) sc_lacks.nd rfl (Or.inl rfl)) pgs_nil))) (fun _ _ _ _ _ => pts_one (pt_cmpR op_gt (pv 3) (pv 2) (nomark _))) (fun _ _ _ _ _ => (pe_op op_sub (pv 3) (pv 2)))) pa_nil)))), ?_⟩
    rw [← lackI_eq] at q
    refine s_ret (ev_sum (ns := ((xs.zip ys).filter fun p : Int × Int => decide (p.1 < p.2)).map fun p : Int × Int => p.2 - p.1) ?_) q
    rw [List.map_map]
    exact ez_intsIf (K := K) (fun x y => decide (x < y)) (fun x y => .int (y - x)) (ea_cons (ev_var rfl) (ea_cons (ev_var rfl) ea_nil)) hx hy hl hz (fun _ _ => rfl) (fun x y H' _ => et_test (ev_op (ev_var rfl) (ev_var rfl) rv_I0)) (fun x y H' _ => ev_op (ev_var rfl) (ev_var rfl) rv_I0)
/-! _law_cell -/

def sp_cell (K : PySem.W.Frag) : Sp := fun vs H Q _ => ∃ (a : Addr) (ns : List Int) (j : Int), vs = [.ref a, .int j] ∧ SqL K H a (ns.map V.int) ∧ 0 ≤ j ∧ ∀ c : Int, Q (.int c) H
theorem ok_cell (T : Txt K mg) : FnOk P w K mg base CX0 1 T.f_cell T.fd_cell ["_law_script", "_law_k"] (sp_cell K) := by
  refine T.F_cell.ok sc_cell (fun vs H Q E h => ?_) (fun cdv A outer s H vs Q E hr h => ?_)

  · obtain ⟨a, ns, j, rfl, _⟩ := h
    rfl
  · obtain ⟨a, ns, j, rfl, hS, hj, q⟩ := h
    refine ⟨_, (pss_cons (ps_if (pt_cmpR op_lt (pv 1) (pe_callB call_len_seq (by rfl) T.m_len (by decide +kernel) (pa_cons (pv 0) pa_nil)) (nomark _)) (pss_one (ps_ret (pe_ix ix_list (pv 0) (pv 1) (fun _ _ => rfl)))) pss_nil)
      (pss_one (ps_ret pe_int))), ?_⟩
    refine ⟨_, rfl, _, rfl, a, _, rfl, .inl hS, _, _, rfl, rfl, _, rfl, ite2 (fun c => ?_) (fun c => ?_)⟩
    · have c' : j < ((ns.map V.int).length : Int) := of_decide_eq_true c
      have hk : j.toNat < ns.length := by
        rw [List.length_map] at c'
        omega
      refine ⟨_, rfl, _, rfl, a, _, j, .int ns[j.toNat], rfl, rfl, hS, at_of (j := j.toNat) (by omega) ?_, q _⟩
      rw [List.getElem?_map, List.getElem?_eq_getElem hk]
      rfl
    · exact q 0
/-! deeper -/

def sp_deeper (K : PySem.W.Frag) : Sp := fun vs H Q _ => ∃ (a b : Addr) (xs ys : List Int), vs = [.ref a, .ref b] ∧ TpI K H a xs ∧ TpI K H b ys ∧ xs.length = ys.length ∧ xs.length ≤ 1000 ∧ ∀ H', Ex H H' → Q (.bl (lowB xs ys)) H'
theorem ok_deeper (T : Txt K mg) : FnOk P w K mg base CX0 1 T.f_deeper T.fd_deeper ["shallow", "deep"] (sp_deeper K) := by
  refine T.F_deeper.ok sc_deeper (fun vs H Q E h => ?_) (fun cdv A outer s H vs Q E hr h => ?_)

  · obtain ⟨a, b, xs, ys, rfl, _⟩ := h
    rfl
  · obtain ⟨a, b, xs, ys, rfl, hx, hy, hl, hz, q⟩ := h
    refine ⟨_, (pss_one (ps_ret (pe_callB (cr_all rfl) (by rfl) T.m_all (by decide +kernel) (pa_cons (pe_lc (own := [("low", 2), ("high", 3)]) (g := gTwo K 2 3) (tt := tYes) (by rfl) sc_deeper.nd (pi_zipA (by rfl) T.m_zip (pa_cons (pv 0) (pa_cons (pv 1) pa_nil))) (blkOk_by (own := [("low", 2), ("high", 3)]) (N := ["shallow", "deep", "low", "high"]) (sc := defScope s_deeper) (by decide +kernel)) (fun _ _ _ _ _ => pg_tup rfl (pgs_cons (pg_name (i := 2) sc_deeper.nd rfl (Or.inl rfl)) (pgs_cons (pg_name (i := 3) sc_deeper.nd rfl (Or.inl rfl)) pgs_nil))) (fun _ _ _ _ _ => pts_nil) (fun _ _ _ _ _ => (pe_cmpR op_le (pv 2) (pv 3) (nomark _)))) pa_nil)))), ?_⟩
    have r : ((xs.zip ys).map fun p => decide (p.1 ≤ p.2)).all id = lowB xs ys := by
      rw [List.all_map]
      rfl
    rw [← r] at q
    refine s_ret (ev_all (bs := (xs.zip ys).map fun p => decide (p.1 ≤ p.2)) ?_) q
    rw [List.map_map]
    exact ez_ints (K := K) (fun x y => .bl (decide (x ≤ y))) (ea_cons (ev_var rfl) (ea_cons (ev_var rfl) ea_nil)) hx hy hl hz (fun _ _ => rfl) (fun x y H' _ _ => ev_op (ev_var rfl) (ev_var rfl) rv_I0)
/-! _law_whole -/

def sp_whole (K : PySem.W.Frag) : Sp := fun vs H Q _ => ∃ i : Int, vs = [.int i] ∧ Q (.bl true) H
theorem ok_whole (T : Txt K mg) : FnOk P w K mg base CX0 1 T.f_whole T.fd_whole ["_law_found"] (sp_whole K) := by
  refine T.F_whole.ok sc_whole (fun vs H Q E h => ?_) (fun cdv A outer s H vs Q E hr h => ?_)

  · obtain ⟨i, rfl, _⟩ := h
    rfl
  · obtain ⟨i, rfl, q⟩ := h
    refine ⟨_, (pss_one (ps_ret (pe_and (pe_callB call_isi (by rfl) T.m_isinstance (by decide +kernel) (pa_cons (pv 0) (pa_cons (pe_bltn (v := .ty "int") (by rfl) T.m_int (by decide +kernel) rfl) pa_nil))) (pe_one (pe_not (pe_callB call_isi (by rfl) T.m_isinstance (by decide +kernel) (pa_cons (pv 0) (pa_cons (pe_bltn (v := .ty "bool") (by rfl) T.m_bool (by decide +kernel) rfl) pa_nil)))))))), ?_⟩
    refine ⟨_, rfl, _, _, _, _, true, rfl, .ty _, .base (.int i), kit_ty (by decide +kernel), true, rfl, iteT ?_⟩
    exact ⟨_, rfl, _, _, _, _, false, rfl, .ty _, .base (.int i), kit_ty (by decide +kernel), false, rfl, q⟩
/-! _law_like -/

def Sc (v : V) : Prop := v = .non ∨ (∃ b, v = .bl b) ∨ (∃ i, v = .int i) ∨ ∃ s, v = .str s
/-- alike to a depth: scalars, tuples and lists of alike ones -/
def Lk (K : PySem.W.Frag) (H : Hp) : Nat → V → V → Prop
  | 0, _, _ => False
  | n + 1, v, w => (v = w ∧ Sc v) ∨ ∃ (a b : Addr) (xs ys : List V), v = .ref a ∧ w = .ref b ∧ ((SqT K H a xs ∧ SqT K H b ys) ∨ (H a = some (.lst xs) ∧ H b = some (.lst ys))) ∧ xs.length = ys.length ∧ xs.length ≤ 1000 ∧ ∀ p ∈ xs.zip ys, Lk K H n p.1 p.2
theorem Lk.mono {K : PySem.W.Frag} {H H' : Hp} (e : Ex H H') : ∀ (n : Nat) (v w : V), Lk K H n v w → Lk K H' n v w
  | 0, _, _, h => h
  | n + 1, v, w, h => by
    rcases h with h | ⟨a, b, xs, ys, e1, e2, k, hl, hz, r⟩
    · exact Or.inl h
    · refine Or.inr ⟨a, b, xs, ys, e1, e2, ?_, hl, hz, fun p hp => Lk.mono e n _ _ (r p hp)⟩
      rcases k with ⟨k1, k2⟩ | ⟨k1, k2⟩
      · exact Or.inl ⟨ex_t e k1, ex_t e k2⟩
      · exact Or.inr ⟨e _ _ k1, e _ _ k2⟩
theorem Lk.bl {K : PySem.W.Frag} {H : Hp} {n : Nat} {b c : Bool} (h : b = c) : Lk K H (n + 1) (.bl b) (.bl c) := by
  subst h
  exact Or.inl ⟨rfl, Or.inr (Or.inl ⟨b, rfl⟩)⟩
theorem Lk.int {K : PySem.W.Frag} {H : Hp} {n : Nat} {b c : Int} (h : b = c) : Lk K H (n + 1) (.int b) (.int c) := by
  subst h
  exact Or.inl ⟨rfl, Or.inr (Or.inr (Or.inl ⟨b, rfl⟩))⟩
theorem Lk.str {K : PySem.W.Frag} {H : Hp} {n : Nat} {b c : Str} (h : b = c) : Lk K H (n + 1) (.str b) (.str c) := by
  subst h
  exact Or.inl ⟨rfl, Or.inr (Or.inr (Or.inr ⟨b, rfl⟩))⟩
/-- two tuples of the same ints -/
theorem Lk.ints {K : PySem.W.Frag} {H : Hp} {n : Nat} {a b : Addr} {xs ys : List Int} (h1 : TpI K H a xs) (h2 : TpI K H b ys) (h : xs = ys) (hz : xs.length ≤ 1000) : Lk K H (n + 2) (.ref a) (.ref b) := by
  subst h
  refine Or.inr ⟨a, b, _, _, rfl, rfl, Or.inl ⟨h1, h2⟩, rfl, by simpa using hz, fun p hp => ?_⟩
  obtain ⟨v, w⟩ := p
  obtain ⟨x, y, rfl, rfl, m⟩ := zip_ints_mem hp
  obtain ⟨i, hi, e⟩ := List.getElem_of_mem m
  rw [List.getElem_zip] at e
  cases e
  exact Lk.int rfl
def sp_like (K : PySem.W.Frag) (n : Nat) : Sp := fun vs H Q _ => ∃ v w : V, vs = [v, w] ∧ Lk K H n v w ∧ ∀ H', Ex H H' → Q (.bl true) H'
theorem ok_likeS (T : Txt K mg) (n : Nat) (ih : FnOk P w K mg base CX0 (n + 1) T.f_like T.fd_like ["_law_found", "_law_due"] (sp_like K n)) : FnOk P w K mg base CX0 (n + 2) T.f_like T.fd_like ["_law_found", "_law_due"] (sp_like K (n + 1)) := by
  refine T.F_like.ok sc_like (fun vs H Q E h => ?_) (fun cdv A outer s H vs Q E hr h => ?_)

  · obtain ⟨v, w, rfl, _⟩ := h
    rfl
  · obtain ⟨v, u, rfl, hL, q⟩ := h
    refine ⟨_, (pss_cons (ps_if (pt_cmpR op_isN (pv 1) pe_non (nomark _)) (pss_one (ps_ret (pe_cmpR op_isN (pv 0) pe_non (nomark _)))) pss_nil)
      (pss_cons (ps_if (pt_cmpR op_isT (pv 1) pe_bl (nomark _)) (pss_one (ps_ret (pe_cmpR op_isT (pv 0) pe_bl (nomark _)))) pss_nil)
      (pss_cons (ps_if (pt_cmpR op_isT (pv 1) pe_bl (nomark _)) (pss_one (ps_ret (pe_cmpR op_isT (pv 0) pe_bl (nomark _)))) pss_nil)
      (pss_cons (ps_if (pt_val (pe_callB call_isi (by rfl) T.m_isinstance (by decide +kernel) (pa_cons (pv 1) (pa_cons (pe_bltn (v := .ty "int") (by rfl) T.m_int (by decide +kernel) rfl) pa_nil)))) (pss_one (ps_ret (pe_and (pe_call (ok_whole T) (hr.mono (by omega)) (by rfl) T.g_whole T.F_whole.kp T.b_whole .nil pass0 (pa_cons (pv 0) pa_nil)) (pe_one (pe_cmpR op_eq (pv 0) (pv 1) (nomark _)))))) pss_nil)
      (pss_cons (ps_if (pt_val (pe_callB call_isi (by rfl) T.m_isinstance (by decide +kernel) (pa_cons (pv 1) (pa_cons (pe_bltn (v := .ty "str") (by rfl) T.m_str (by decide +kernel) rfl) pa_nil)))) (pss_one (ps_ret (pe_and (pe_callB call_isi (by rfl) T.m_isinstance (by decide +kernel) (pa_cons (pv 0) (pa_cons (pe_bltn (v := .ty "str") (by rfl) T.m_str (by decide +kernel) rfl) pa_nil))) (pe_one (pe_cmpR op_eq (pv 0) (pv 1) (nomark _)))))) pss_nil)
      (pss_cons (ps_if (PW.pt (pw_and (pt_val (pe_callB call_isi (by rfl) T.m_isinstance (by decide +kernel) (pa_cons (pv 1) (pa_cons (pe_bltn (v := .ty "tuple") (by rfl) T.m_tuple (by decide +kernel) rfl) pa_nil)))) (pw_and1 (pt_not (pt_val (pe_callB call_isi (by rfl) T.m_isinstance (by decide +kernel) (pa_cons (pv 0) (pa_cons (pe_bltn (v := .ty "tuple") (by rfl) T.m_tuple (by decide +kernel) rfl) pa_nil)))))))) (pss_one (ps_ret pe_bl)) pss_nil)
      (pss_cons (ps_if (PW.pt (pw_and (pt_val (pe_callB call_isi (by rfl) T.m_isinstance (by decide +kernel) (pa_cons (pv 1) (pa_cons (pe_bltn (v := .ty "list") (by rfl) T.m_list (by decide +kernel) rfl) pa_nil)))) (pw_and1 (pt_not (pt_val (pe_callB call_isi (by rfl) T.m_isinstance (by decide +kernel) (pa_cons (pv 0) (pa_cons (pe_bltn (v := .ty "list") (by rfl) T.m_list (by decide +kernel) rfl) pa_nil)))))))) (pss_one (ps_ret pe_bl)) pss_nil)
      (pss_cons (ps_if (pt_cmpR op_ne (pe_callB call_len_seq (by rfl) T.m_len (by decide +kernel) (pa_cons (pv 0) pa_nil)) (pe_callB call_len_seq (by rfl) T.m_len (by decide +kernel) (pa_cons (pv 1) pa_nil)) (nomark _)) (pss_one (ps_ret pe_bl)) pss_nil)
      (pss_cons (ps_for PassesOwn.never rfl (pi_zipA (by rfl) T.m_zip (pa_cons (pv 0) (pa_cons (pv 1) pa_nil))) (pg_tup rfl (pgs_cons (pg_name (i := 2) sc_like.nd rfl (Or.inl rfl)) (pgs_cons (pg_name (i := 3) sc_like.nd rfl (Or.inl rfl)) pgs_nil))) (pss_one (ps_if (pt_not (pt_val (pe_call ih hr (by rfl) T.g_like T.F_like.kp T.b_like .nil pass0 (pa_cons (pv 2) (pa_cons (pv 3) pa_nil))))) (pss_one (ps_ret pe_bl)) pss_nil)))
      (pss_one (ps_ret pe_bl))))))))))), ?_⟩
    rcases hL with ⟨rfl, rfl | ⟨b, rfl⟩ | ⟨i, rfl⟩ | ⟨z, rfl⟩⟩ | ⟨a, b, xs, ys, rfl, rfl, hk, hl, hz, hr2⟩
    · exact ⟨_, rfl, rfl, _, rfl, iteT ⟨_, rfl, rfl, q H (Ex.refl H)⟩⟩
    · refine ⟨_, rfl, rfl, _, rfl, iteF ?_⟩
      cases b with
      | true => exact ⟨_, rfl, true, rfl, _, rfl, iteT ⟨_, rfl, true, rfl, q H (Ex.refl H)⟩⟩
      | false => exact ⟨_, rfl, true, rfl, _, rfl, iteF ⟨_, rfl, false, rfl, _, rfl, iteT ⟨_, rfl, false, rfl, q H (Ex.refl H)⟩⟩⟩
    · refine ⟨_, rfl, rfl, _, rfl, iteF ⟨_, rfl, true, rfl, _, rfl, iteF ⟨_, rfl, false, rfl, _, rfl, iteF ?_⟩⟩⟩
      refine ⟨_, rfl, _, _, _, _, true, rfl, .ty _, .base (.int i), kit_ty (by decide +kernel), true, rfl, iteT ?_⟩
      refine ⟨_, rfl, i, rfl, true, rfl, iteT ⟨_, rfl, _, rfl, rfl, ?_⟩⟩
      rw [decide_eq_true rfl]
      exact q H (Ex.refl H)
    · refine ⟨_, rfl, rfl, _, rfl, iteF ⟨_, rfl, true, rfl, _, rfl, iteF ⟨_, rfl, false, rfl, _, rfl, iteF ?_⟩⟩⟩
      refine ⟨_, rfl, _, _, _, _, false, rfl, .ty _, .base (.str z), kit_ty (by decide +kernel), false, rfl, iteF ?_⟩
      refine ⟨_, rfl, _, _, _, _, true, rfl, .ty _, .base (.str z), kit_ty (by decide +kernel), true, rfl, iteT ?_⟩
      refine ⟨_, rfl, _, _, _, _, true, rfl, .ty _, .base (.str z), kit_ty (by decide +kernel), true, rfl, iteT ⟨_, rfl, _, rfl, rfl, ?_⟩⟩
      rw [decide_eq_true rfl]
      exact q H (Ex.refl H)
    · refine ⟨_, rfl, rfl, _, rfl, iteF ⟨_, rfl, true, rfl, _, rfl, iteF ⟨_, rfl, false, rfl, _, rfl, iteF ?_⟩⟩⟩
      rcases hk with ⟨k1, k2⟩ | ⟨k1, k2⟩
      · have ta := tyx_tup k1
        have tb := tyx_tup k2
        refine ⟨_, rfl, _, _, _, _, false, rfl, .ty _, tb, kit_ty (by decide +kernel), false, rfl, iteF ?_⟩
        refine ⟨_, rfl, _, _, _, _, false, rfl, .ty _, tb, kit_ty (by decide +kernel), false, rfl, iteF ?_⟩
        refine ⟨_, rfl, _, _, _, _, true, rfl, .ty _, tb, kit_ty (by decide +kernel), true, rfl, iteT ⟨_, rfl, _, _, _, _, true, rfl, .ty _, ta, kit_ty (by decide +kernel), true, rfl, iteF ?_⟩⟩
        refine ⟨_, rfl, _, _, _, _, false, rfl, .ty _, tb, kit_ty (by decide +kernel), false, rfl, iteF (iteF ?_)⟩
        refine ⟨_, rfl, a, xs, rfl, .inr k1, _, rfl, b, ys, rfl, .inr k2, rfl, _, rfl, iteNS (by rw [hl]) ?_⟩
        refine ⟨_, rfl, _, rfl, a, b, xs, ys, rfl, Or.inr ⟨k1, k2, for_it (walkTT hl) (fun i σ' H' => ∃ x' y' : Option V, σ' = [some (.ref a), some (.ref b), x', y'] ∧ Ex H H') ⟨_, _, rfl, Ex.refl H⟩ ?_ ?_ ?_⟩⟩
        · rintro i σ' H' _ ⟨x', y', rfl, e1⟩
          exact ⟨ex_t e1 k1, ex_t e1 k2⟩
        · rintro i v σ' H' H'' hi ⟨x', y', rfl, e1⟩ ⟨T', x, y, rfl, nT, rfl, gx, gy⟩
          refine gTwo_of ?_
          have eT : Ex H (upd H' T' (.tup [x, y])) := e1.trans (Ex.new nT)
          refine ⟨_, rfl, _, rfl, x, y, rfl, Lk.mono eT _ _ _ (hr2 (x, y) (zip_mem gx gy)), fun H3 e3 => ⟨true, rfl, iteF ?_⟩⟩
          exact ⟨_, _, rfl, eT.trans e3⟩
        · rintro σ' H' ⟨x', y', rfl, e1⟩
          exact q H' e1
      · have ta : TyX K H (.ref a) (.type "list") := tyx_lst k1
        have tb : TyX K H (.ref b) (.type "list") := tyx_lst k2
        refine ⟨_, rfl, _, _, _, _, false, rfl, .ty _, tb, kit_ty (by decide +kernel), false, rfl, iteF ?_⟩
        refine ⟨_, rfl, _, _, _, _, false, rfl, .ty _, tb, kit_ty (by decide +kernel), false, rfl, iteF ?_⟩
        refine ⟨_, rfl, _, _, _, _, false, rfl, .ty _, tb, kit_ty (by decide +kernel), false, rfl, iteF (iteF ?_)⟩
        refine ⟨_, rfl, _, _, _, _, true, rfl, .ty _, tb, kit_ty (by decide +kernel), true, rfl, iteT ⟨_, rfl, _, _, _, _, true, rfl, .ty _, ta, kit_ty (by decide +kernel), true, rfl, iteF ?_⟩⟩
        refine ⟨_, rfl, a, xs, rfl, .inl (sq_of k1), _, rfl, b, ys, rfl, .inl (sq_of k2), rfl, _, rfl, iteNS (by rw [hl]) ?_⟩
        refine ⟨_, rfl, _, rfl, a, b, xs, ys, rfl, Or.inl ⟨sq_of k1, sq_of k2, for_it (walkLL hl) (fun i σ' H' => ∃ x' y' : Option V, σ' = [some (.ref a), some (.ref b), x', y'] ∧ Ex H H') ⟨_, _, rfl, Ex.refl H⟩ ?_ ?_ ?_⟩⟩
        · rintro i σ' H' _ ⟨x', y', rfl, e1⟩
          exact ⟨ex_l e1 (sq_of k1), ex_l e1 (sq_of k2)⟩
        · rintro i v σ' H' H'' hi ⟨x', y', rfl, e1⟩ ⟨T', x, y, rfl, nT, rfl, gx, gy⟩
          refine gTwo_of ?_
          have eT : Ex H (upd H' T' (.tup [x, y])) := e1.trans (Ex.new nT)
          refine ⟨_, rfl, _, rfl, x, y, rfl, Lk.mono eT _ _ _ (hr2 (x, y) (zip_mem gx gy)), fun H3 e3 => ⟨true, rfl, iteF ?_⟩⟩
          exact ⟨_, _, rfl, eT.trans e3⟩
        · rintro σ' H' ⟨x', y', rfl, e1⟩
          exact q H' e1
theorem ok_like (T : Txt K mg) : ∀ n : Nat, FnOk P w K mg base CX0 (n + 1) T.f_like T.fd_like ["_law_found", "_law_due"] (sp_like K n)
  | 0 => ⟨fun vs H Q E h => by obtain ⟨v, w, _, h, _⟩ := h; exact h.elim, fun A outer s H args us vs Q E _ _ _ _ h => by obtain ⟨v, w, _, h, _⟩ := h; exact h.elim⟩
  | n + 1 => ok_likeS T n (ok_like T n)
/-! apart -/

def sp_apart (K : PySem.W.Frag) : Sp := fun vs H Q _ => ∃ (a b : Addr) (xs ys : List Int), vs = [.ref a, .ref b] ∧ TpI K H a xs ∧ TpI K H b ys ∧ xs.length = ys.length ∧ xs.length ≤ 1000 ∧ ∀ H', Ex H H' → Q (.int (max (tearI xs ys) (tearI ys xs))) H'
theorem ok_apart (T : Txt K mg) : FnOk P w K mg base CX0 2 T.f_apart T.fd_apart ["one", "other"] (sp_apart K) := by
  refine T.F_apart.ok sc_apart (fun vs H Q E h => ?_) (fun cdv A outer s H vs Q E hr h => ?_)

  · obtain ⟨a, b, xs, ys, rfl, _⟩ := h
    rfl
  · obtain ⟨a, b, xs, ys, rfl, hx, hy, hl, hz, q⟩ := h
    refine ⟨_, (pss_one (ps_ret (pe_callB (call_max2 rfl) (by rfl) T.m_max (by decide +kernel) (pa_cons (pe_call (ok_lacks T) (hr.mono (by decide)) (by rfl) T.g_lacks T.F_lacks.kp T.b_lacks .nil pass0 (pa_cons (pv 0) (pa_cons (pv 1) pa_nil))) (pa_cons (pe_call (ok_lacks T) (hr.mono (by decide)) (by rfl) T.g_lacks T.F_lacks.kp T.b_lacks .nil pass0 (pa_cons (pv 1) (pa_cons (pv 0) pa_nil))) pa_nil))))), ?_⟩
    refine ⟨_, rfl, _, rfl, a, b, xs, ys, rfl, hx, hy, hl, hz, fun H1 e1 => ?_⟩
    refine ⟨_, rfl, _, rfl, b, a, ys, xs, rfl, ex_t e1 hy, ex_t e1 hx, hl.symm, by omega, fun H2 e2 => ⟨_, _, rfl, ?_⟩⟩
    rw [max2]
    exact q H2 (e1.trans e2)
/-! _law_tears -/

def sp_tears (K : PySem.W.Frag) : Sp := fun vs H Q _ => ∃ (a b : Addr) (xs ys : List Int), vs = [.ref a, .ref b] ∧ TpI K H a xs ∧ TpI K H b ys ∧ xs.length = ys.length ∧ xs.length ≤ 1000 ∧ ∀ H', Ex H H' → Q (.int (tearI xs ys)) H'
theorem ok_tears (T : Txt K mg) : FnOk P w K mg base CX0 1 T.f_tears T.fd_tears ["_law_one", "_law_other"] (sp_tears K) := by
  refine T.F_tears.ok sc_tears (fun vs H Q E h => ?_) (fun cdv A outer s H vs Q E hr h => ?_)

  · obtain ⟨a, b, xs, ys, rfl, _⟩ := h
    rfl
  · obtain ⟨a, b, xs, ys, rfl, hx, hy, hl, hz, q⟩ := h
    refine ⟨_, (pss_one (ps_ret (pe_callB (cr_sum rfl) (by rfl) T.m_sum (by decide +kernel) (pa_cons (pe_lc (own := [("_law_a", 2), ("_law_b", 3)]) (g := gTwo K 2 3) (tt := tYes) (by rfl) sc_tears.nd (pi_zipA (by rfl) T.m_zip (pa_cons (pv 0) (pa_cons (pv 1) pa_nil))) (blkOk_by (own := [("_law_a", 2), ("_law_b", 3)]) (N := ["_law_one", "_law_other", "_law_a", "_law_b"]) (sc := defScope s_tears) (by decide +kernel)) (fun _ _ _ _ _ => pg_tup rfl (pgs_cons (pg_name (i := 2) sc_tears.nd rfl (Or.inl rfl)) (pgs_cons (pg_name (i := 3) sc_tears.nd rfl (Or.inl rfl)) pgs_nil))) (fun _ _ _ _ _ => pts_nil) (fun _ _ _ _ _ => (pe_callB (call_max2 rfl) (by rfl) T.m_max (by decide +kernel) (pa_cons pe_int (pa_cons (pe_op op_sub (pv 3) (pv 2)) pa_nil))))) pa_nil)))), ?_⟩
    refine s_ret (ev_sum (ns := (xs.zip ys).map fun p : Int × Int => max 0 (p.2 - p.1)) ?_) q
    rw [List.map_map]
    exact ez_ints (K := K) (fun x y => .int (max 0 (y - x))) (ea_cons (ev_var rfl) (ea_cons (ev_var rfl) ea_nil)) hx hy hl hz (fun _ _ => rfl) (fun x y H' _ _ => ev_max ev_c (ev_op (ev_var rfl) (ev_var rfl) rv_I0))
/-! _law_far -/

def sp_far (K : PySem.W.Frag) : Sp := fun vs H Q _ => ∃ (a b : Addr) (xs ys : List Int), vs = [.ref a, .ref b] ∧ TpI K H a xs ∧ TpI K H b ys ∧ xs.length = ys.length ∧ xs.length ≤ 1000 ∧ ∀ H', Ex H H' → Q (.int (max (tearI xs ys) (tearI ys xs))) H'
theorem ok_far (T : Txt K mg) : FnOk P w K mg base CX0 2 T.f_far T.fd_far ["_law_one", "_law_other"] (sp_far K) := by
  refine T.F_far.ok sc_far (fun vs H Q E h => ?_) (fun cdv A outer s H vs Q E hr h => ?_)

  · obtain ⟨a, b, xs, ys, rfl, _⟩ := h
    rfl
  · obtain ⟨a, b, xs, ys, rfl, hx, hy, hl, hz, q⟩ := h
    refine ⟨_, (pss_one (ps_ret (pe_callB (call_max2 rfl) (by rfl) T.m_max (by decide +kernel) (pa_cons (pe_call (ok_tears T) (hr.mono (by decide)) (by rfl) T.g_tears T.F_tears.kp T.b_tears .nil pass0 (pa_cons (pv 0) (pa_cons (pv 1) pa_nil))) (pa_cons (pe_call (ok_tears T) (hr.mono (by decide)) (by rfl) T.g_tears T.F_tears.kp T.b_tears .nil pass0 (pa_cons (pv 1) (pa_cons (pv 0) pa_nil))) pa_nil))))), ?_⟩
    refine ⟨_, rfl, _, rfl, a, b, xs, ys, rfl, hx, hy, hl, hz, fun H1 e1 => ?_⟩
    refine ⟨_, rfl, _, rfl, b, a, ys, xs, rfl, ex_t e1 hy, ex_t e1 hx, hl.symm, by omega, fun H2 e2 => ⟨_, _, rfl, ?_⟩⟩
    rw [max2]
    exact q H2 (e1.trans e2)
/-! joint -/

def sp_joint (K : PySem.W.Frag) : Sp := fun vs H Q _ => ∃ (a b : Addr) (xs ys : List Int), vs = [.ref a, .ref b] ∧ TpI K H a xs ∧ TpI K H b ys ∧ xs.length = ys.length ∧ xs.length ≤ 1000 ∧ ∀ (p : Addr) (H' : Hp), Ex H H' → H' p = some (.tup ((maxL xs ys).map V.int)) → Q (.ref p) H'
theorem ok_joint (T : Txt K mg) : FnOk P w K mg base CX0 1 T.f_joint T.fd_joint ["one", "other"] (sp_joint K) := by
  refine T.F_joint.ok sc_joint (fun vs H Q E h => ?_) (fun cdv A outer s H vs Q E hr h => ?_)

  · obtain ⟨a, b, xs, ys, rfl, _⟩ := h
    rfl
  · obtain ⟨a, b, xs, ys, rfl, hx, hy, hl, hz, q⟩ := h
    refine ⟨_, (pss_one (ps_ret (pe_callTy call_tuple_of (by rfl) T.m_tuple (by decide +kernel) (pa_cons (pe_lc (own := [("here", 2), ("there", 3)]) (g := gTwo K 2 3) (tt := tYes) (by rfl) sc_joint.nd (pi_zipA (by rfl) T.m_zip (pa_cons (pv 0) (pa_cons (pv 1) pa_nil))) (blkOk_by (own := [("here", 2), ("there", 3)]) (N := ["one", "other", "here", "there"]) (sc := defScope s_joint) (by decide +kernel)) (fun _ _ _ _ _ => pg_tup rfl (pgs_cons (pg_name (i := 2) sc_joint.nd rfl (Or.inl rfl)) (pgs_cons (pg_name (i := 3) sc_joint.nd rfl (Or.inl rfl)) pgs_nil))) (fun _ _ _ _ _ => pts_nil) (fun _ _ _ _ _ => (pe_callB (call_max2 rfl) (by rfl) T.m_max (by decide +kernel) (pa_cons (pv 2) (pa_cons (pv 3) pa_nil))))) pa_nil)))), ?_⟩
    refine s_retU (eu_tuple (ez_ints (K := K) (fun x y => .int (max x y)) (ea_cons (ev_var rfl) (ea_cons (ev_var rfl) ea_nil)) hx hy hl hz (fun _ _ => rfl) (fun x y H' _ _ => ev_max (ev_var rfl) (ev_var rfl)))) fun p H1 _ e1 h1 => q p H1 e1 ?_
    unfold maxL
    rw [List.map_map]
    exact h1
/-! common -/

def sp_common (K : PySem.W.Frag) : Sp := fun vs H Q _ => ∃ (a b : Addr) (xs ys : List Int), vs = [.ref a, .ref b] ∧ TpI K H a xs ∧ TpI K H b ys ∧ xs.length = ys.length ∧ xs.length ≤ 1000 ∧ ∀ (p : Addr) (H' : Hp), Ex H H' → H' p = some (.tup ((minL xs ys).map V.int)) → Q (.ref p) H'
theorem ok_common (T : Txt K mg) : FnOk P w K mg base CX0 1 T.f_common T.fd_common ["one", "other"] (sp_common K) := by
  refine T.F_common.ok sc_common (fun vs H Q E h => ?_) (fun cdv A outer s H vs Q E hr h => ?_)

  · obtain ⟨a, b, xs, ys, rfl, _⟩ := h
    rfl
  · obtain ⟨a, b, xs, ys, rfl, hx, hy, hl, hz, q⟩ := h
    refine ⟨_, (pss_one (ps_ret (pe_callTy call_tuple_of (by rfl) T.m_tuple (by decide +kernel) (pa_cons (pe_lc (own := [("here", 2), ("there", 3)]) (g := gTwo K 2 3) (tt := tYes) (by rfl) sc_common.nd (pi_zipA (by rfl) T.m_zip (pa_cons (pv 0) (pa_cons (pv 1) pa_nil))) (blkOk_by (own := [("here", 2), ("there", 3)]) (N := ["one", "other", "here", "there"]) (sc := defScope s_common) (by decide +kernel)) (fun _ _ _ _ _ => pg_tup rfl (pgs_cons (pg_name (i := 2) sc_common.nd rfl (Or.inl rfl)) (pgs_cons (pg_name (i := 3) sc_common.nd rfl (Or.inl rfl)) pgs_nil))) (fun _ _ _ _ _ => pts_nil) (fun _ _ _ _ _ => (pe_callB (call_min2 rfl) (by rfl) T.m_min (by decide +kernel) (pa_cons (pv 2) (pa_cons (pv 3) pa_nil))))) pa_nil)))), ?_⟩
    refine s_retU (eu_tuple (ez_ints (K := K) (fun x y => .int (min x y)) (ea_cons (ev_var rfl) (ea_cons (ev_var rfl) ea_nil)) hx hy hl hz (fun _ _ => rfl) (fun x y H' _ _ => ev_min (ev_var rfl) (ev_var rfl)))) fun p H1 _ e1 h1 => q p H1 e1 ?_
    unfold minL
    rw [List.map_map]
    exact h1
/-! law -/

def sp_law (K : PySem.W.Frag) : Sp := fun vs H Q _ => ∃ (a : Addr) (ns : List Int), vs = [.ref a] ∧ SqL K H a (ns.map V.int) ∧ ns.length ≤ 63 ∧ ∀ H', Q (.bl true) H'
theorem ok_law (T : Txt K mg) : FnOk P w K mg base CX0 4 T.f_law T.fd_law ["_law_script"] (sp_law K) := by
  refine T.F_law.ok sc_law (fun vs H Q E h => ?_) (fun cdv A outer s H vs Q E hr h => ?_)

  · obtain ⟨a, ns, rfl, _⟩ := h
    rfl
  · obtain ⟨a, ns, rfl, hS, _, q⟩ := h
    refine ⟨_, (pss_cons (ps_set (i := 1) sc_law.nd rfl (Or.inl rfl) (pe_call (ok_ear T) (hr.mono (by decide)) (by rfl) T.g_ear T.F_ear.kp T.b_ear .nil pass0 (pa_cons (pe_call (ok_cell T) (hr.mono (by decide)) (by rfl) T.g_cell T.F_cell.kp T.b_cell .nil pass0 (pa_cons (pv 0) (pa_cons pe_int pa_nil))) pa_nil)))
      (pss_cons (ps_set (i := 2) sc_law.nd rfl (Or.inl rfl) (pe_call (ok_other_ear T) (hr.mono (by decide)) (by rfl) T.g_other_ear T.F_other_ear.kp T.b_other_ear .nil pass0 (pa_cons (pv 1) (pa_cons (pe_call (ok_cell T) (hr.mono (by decide)) (by rfl) T.g_cell T.F_cell.kp T.b_cell .nil pass0 (pa_cons (pv 0) (pa_cons pe_int pa_nil))) pa_nil))))
      (pss_cons (ps_set (i := 3) sc_law.nd rfl (Or.inl rfl) (pe_call (ok_lacks T) (hr.mono (by decide)) (by rfl) T.g_lacks T.F_lacks.kp T.b_lacks .nil pass0 (pa_cons (pv 1) (pa_cons (pv 2) pa_nil))))
      (pss_cons (ps_if (PW.pt (pw_or (pt_not (pt_val (pe_call (ok_like T 1) (hr.mono (by decide)) (by rfl) T.g_like T.F_like.kp T.b_like .nil pass0 (pa_cons (pv 3) (pa_cons (pe_call (ok_tears T) (hr.mono (by decide)) (by rfl) T.g_tears T.F_tears.kp T.b_tears .nil pass0 (pa_cons (pv 1) (pa_cons (pv 2) pa_nil))) pa_nil))))) (pw_or1 (pt_not (pt_val (pe_call (ok_like T 1) (hr.mono (by decide)) (by rfl) T.g_like T.F_like.kp T.b_like .nil pass0 (pa_cons (pe_call (ok_lacks T) (hr.mono (by decide)) (by rfl) T.g_lacks T.F_lacks.kp T.b_lacks .nil pass0 (pa_cons (pv 2) (pa_cons (pv 1) pa_nil))) (pa_cons (pe_call (ok_tears T) (hr.mono (by decide)) (by rfl) T.g_tears T.F_tears.kp T.b_tears .nil pass0 (pa_cons (pv 2) (pa_cons (pv 1) pa_nil))) pa_nil)))))))) (pss_one (ps_ret pe_bl)) pss_nil)
      (pss_cons (ps_if (PW.pt (pw_or (pt_cmpR op_ne (pe_call (ok_lacks T) (hr.mono (by decide)) (by rfl) T.g_lacks T.F_lacks.kp T.b_lacks .nil pass0 (pa_cons (pv 1) (pa_cons (pe_call (ok_joint T) (hr.mono (by decide)) (by rfl) T.g_joint T.F_joint.kp T.b_joint .nil pass0 (pa_cons (pv 1) (pa_cons (pv 2) pa_nil))) pa_nil))) (pv 3) (nomark _)) (pw_or1 (pt_cmpR op_ne (pe_call (ok_lacks T) (hr.mono (by decide)) (by rfl) T.g_lacks T.F_lacks.kp T.b_lacks .nil pass0 (pa_cons (pe_call (ok_common T) (hr.mono (by decide)) (by rfl) T.g_common T.F_common.kp T.b_common .nil pass0 (pa_cons (pv 1) (pa_cons (pv 2) pa_nil))) (pa_cons (pv 2) pa_nil))) (pv 3) (nomark _))))) (pss_one (ps_ret pe_bl)) pss_nil)
      (pss_cons (ps_if (pt_cmpR op_ne (pe_cmpR op_eq (pv 3) pe_int (nomark _)) (pe_call (ok_deeper T) (hr.mono (by decide)) (by rfl) T.g_deeper T.F_deeper.kp T.b_deeper .nil pass0 (pa_cons (pv 2) (pa_cons (pv 1) pa_nil))) (nomark _)) (pss_one (ps_ret pe_bl)) pss_nil)
      (pss_one (ps_ret (pe_and (pe_call (ok_like T 1) (hr.mono (by decide)) (by rfl) T.g_like T.F_like.kp T.b_like .nil pass0 (pa_cons (pe_call (ok_apart T) (hr.mono (by decide)) (by rfl) T.g_apart T.F_apart.kp T.b_apart .nil pass0 (pa_cons (pv 1) (pa_cons (pv 2) pa_nil))) (pa_cons (pe_call (ok_far T) (hr.mono (by decide)) (by rfl) T.g_far T.F_far.kp T.b_far .nil pass0 (pa_cons (pv 1) (pa_cons (pv 2) pa_nil))) pa_nil))) (pe_one (pe_call (ok_like T 1) (hr.mono (by decide)) (by rfl) T.g_like T.F_like.kp T.b_like .nil pass0 (pa_cons (pe_call (ok_apart T) (hr.mono (by decide)) (by rfl) T.g_apart T.F_apart.kp T.b_apart .nil pass0 (pa_cons (pv 2) (pa_cons (pv 1) pa_nil))) (pa_cons (pe_call (ok_far T) (hr.mono (by decide)) (by rfl) T.g_far T.F_far.kp T.b_far .nil pass0 (pa_cons (pv 1) (pa_cons (pv 2) pa_nil))) pa_nil))))))))))))), ?_⟩
    refine ⟨_, rfl, a, ns, 0, rfl, hS, by decide, fun c0 => ⟨c0, rfl, fun p1 H1 xs e1 h1 E1 => ?_⟩⟩
    refine ⟨_, rfl, _, rfl, a, ns, 1, rfl, ex_l e1 hS, by decide, fun c1 => ⟨p1, xs, c1, rfl, st_of h1, E1, fun p2 H2 ys e2 h2 E2 => ?_⟩⟩
    have hl : xs.length = ys.length := by rw [E1.1, E2.1]
    have z1 : xs.length ≤ 1000 := by rw [E1.1]; decide
    have z2 : ys.length ≤ 1000 := by rw [E2.1]; decide
    have lM := maxL_len hl
    have lm := minL_len hl
    have g1 : ∀ {H'}, Ex H2 H' → TpI K H' p1 xs := fun e => st_of (e _ _ (e2 _ _ h1))
    have g2 : ∀ {H'}, Ex H2 H' → TpI K H' p2 ys := fun e => st_of (e _ _ h2)
    have ee := Ex.refl H2
    refine ⟨_, rfl, _, rfl, p1, p2, xs, ys, rfl, g1 ee, g2 ee, hl, z1, fun H3 e3 => ?_⟩
    refine ⟨_, rfl, _, rfl, _, rfl, p1, p2, xs, ys, rfl, g1 e3, g2 e3, hl, z1, fun H4 e4 => ⟨_, _, rfl, Lk.int rfl, fun H5 e5 => ⟨true, rfl, iteF ?_⟩⟩⟩
    have f5 := (e3.trans e4).trans e5
    refine ⟨_, rfl, _, rfl, p2, p1, ys, xs, rfl, g2 f5, g1 f5, hl.symm, z2, fun H6 e6 => ?_⟩
    have f6 := f5.trans e6
    refine ⟨_, rfl, _, rfl, p2, p1, ys, xs, rfl, g2 f6, g1 f6, hl.symm, z2, fun H7 e7 => ⟨_, _, rfl, Lk.int rfl, fun H8 e8 => ⟨true, rfl, iteF ?_⟩⟩⟩
    have f8 := (f6.trans e7).trans e8
    refine ⟨_, rfl, _, rfl, _, rfl, p1, p2, xs, ys, rfl, g1 f8, g2 f8, hl, z1, fun p9 H9 e9 h9 => ?_⟩
    have f9 := f8.trans e9
    refine ⟨p1, p9, xs, maxL xs ys, rfl, g1 f9, st_of h9, lM.symm, z1, fun H10 e10 => ⟨_, rfl, rfl, _, rfl, ?_⟩⟩
    rw [tear_max, decide_eq_true rfl]
    refine iteF ?_
    have f10 := f9.trans e10
    refine ⟨_, rfl, _, rfl, p1, p2, xs, ys, rfl, g1 f10, g2 f10, hl, z1, fun p11 H11 e11 h11 => ?_⟩
    have f11 := f10.trans e11
    refine ⟨_, rfl, p11, p2, minL xs ys, ys, rfl, st_of h11, g2 f11, lm.trans hl, by omega, fun H12 e12 => ⟨_, rfl, rfl, _, rfl, ?_⟩⟩
    rw [tear_min, decide_eq_true rfl]
    refine iteF ?_
    have f12 := f11.trans e12
    refine ⟨_, rfl, rfl, _, rfl, _, rfl, p2, p1, ys, xs, rfl, g2 f12, g1 f12, hl.symm, z2, fun H13 e13 => ⟨rfl, _, rfl, iteNS ?_ ?_⟩⟩
    · rw [← tear_zero xs ys]
      exact congrArg V.bl (decide_eq_decide.mpr ⟨fun h => V.int.inj h, fun h => congrArg V.int h⟩)
    have f13 := f12.trans e13
    refine ⟨_, rfl, _, rfl, p1, p2, xs, ys, rfl, g1 f13, g2 f13, hl, z1, fun H14 e14 => ?_⟩
    have f14 := f13.trans e14
    refine ⟨_, rfl, _, rfl, p1, p2, xs, ys, rfl, g1 f14, g2 f14, hl, z1, fun H15 e15 => ⟨_, _, rfl, Lk.int rfl, fun H16 e16 => ⟨true, rfl, iteT ?_⟩⟩⟩
    have f16 := (f14.trans e15).trans e16
    refine ⟨_, rfl, _, rfl, p2, p1, ys, xs, rfl, g2 f16, g1 f16, hl.symm, z2, fun H17 e17 => ?_⟩
    have f17 := f16.trans e17
    exact ⟨_, rfl, _, rfl, p1, p2, xs, ys, rfl, g1 f17, g2 f17, hl, z1, fun H18 e18 => ⟨_, _, rfl, Lk.int (by omega), fun H19 _ => q H19⟩⟩
end
theorem all_mk {l : PySem.W.OpenLaw} {w : World} {K : PySem.W.Frag} {h : Heap} {mg : Str → Option Value} {fa f0 f1 f2 f3 f4 f5 f6 f7 f8 f9 f10 f11 f12 f13 f14 f15 : Addr} (X : K.In h) (G : h.Ns mainGlobals mg) (hfa : mg "law" = some (.ref fa))
    {od0 an0 od1 an1 od2 an2 od3 an3 od4 an4 od5 an5 od6 an6 od7 an7 od8 an8 od9 an9 od10 an10 od11 an11 od12 an12 od13 an13 od14 an14 od15 an15 : Option Addr} {sl0 sl1 sl2 sl3 sl4 sl5 sl6 sl7 sl8 sl9 sl10 sl11 sl12 sl13 sl14 sl15 : Array (Option Value)} {oc0 kV0 dc0 pm0 cd0 ct0 oc1 kV1 dc1 pm1 cd1 ct1 oc2 kV2 dc2 pm2 cd2 ct2 oc3 kV3 dc3 pm3 cd3 ct3 oc4 kV4 dc4 pm4 cd4 ct4 oc5 kV5 dc5 pm5 cd5 ct5 oc6 kV6 dc6 pm6 cd6 ct6 oc7 kV7 dc7 pm7 cd7 ct7 oc8 kV8 dc8 pm8 cd8 ct8 oc9 kV9 dc9 pm9 cd9 ct9 oc10 kV10 dc10 pm10 cd10 ct10 oc11 kV11 dc11 pm11 cd11 ct11 oc12 kV12 dc12 pm12 cd12 ct12 oc13 kV13 dc13 pm13 cd13 ct13 oc14 kV14 dc14 pm14 cd14 ct14 oc15 kV15 dc15 pm15 cd15 ct15 : Value}
    (a0 : PySem.W.nsIn K mainGlobals "_law_row" = some (some (.ref f0))) (l0 : K.lookup f0 = some ⟨oc0, od0, .func (PySem.W.fnOf "_law_row" "_law_row" (defArgs s_row) (defBody s_row) (defScope s_row) .none kV0 dc0 pm0 an0 cd0 ct0), sl0⟩) (c0 : PySem.W.codeIn K cd0 "_law_row" = true) (k0 : PySem.W.keepIn K (.ref f0) = true)
    (a1 : PySem.W.nsIn K mainGlobals "_law_ear_by" = some (some (.ref f1))) (l1 : K.lookup f1 = some ⟨oc1, od1, .func (PySem.W.fnOf "_law_ear_by" "_law_ear_by" (defArgs s_ear_by) (defBody s_ear_by) (defScope s_ear_by) .none kV1 dc1 pm1 an1 cd1 ct1), sl1⟩) (c1 : PySem.W.codeIn K cd1 "_law_ear_by" = true) (k1 : PySem.W.keepIn K (.ref f1) = true)
    (a2 : PySem.W.nsIn K mainGlobals "_law_ear" = some (some (.ref f2))) (l2 : K.lookup f2 = some ⟨oc2, od2, .func (PySem.W.fnOf "_law_ear" "_law_ear" (defArgs s_ear) (defBody s_ear) (defScope s_ear) .none kV2 dc2 pm2 an2 cd2 ct2), sl2⟩) (c2 : PySem.W.codeIn K cd2 "_law_ear" = true) (k2 : PySem.W.keepIn K (.ref f2) = true)
    (a3 : PySem.W.nsIn K mainGlobals "_law_near" = some (some (.ref f3))) (l3 : K.lookup f3 = some ⟨oc3, od3, .func (PySem.W.fnOf "_law_near" "_law_near" (defArgs s_near) (defBody s_near) (defScope s_near) .none kV3 dc3 pm3 an3 cd3 ct3), sl3⟩) (c3 : PySem.W.codeIn K cd3 "_law_near" = true) (k3 : PySem.W.keepIn K (.ref f3) = true)
    (a4 : PySem.W.nsIn K mainGlobals "_law_other_ear" = some (some (.ref f4))) (l4 : K.lookup f4 = some ⟨oc4, od4, .func (PySem.W.fnOf "_law_other_ear" "_law_other_ear" (defArgs s_other_ear) (defBody s_other_ear) (defScope s_other_ear) .none kV4 dc4 pm4 an4 cd4 ct4), sl4⟩) (c4 : PySem.W.codeIn K cd4 "_law_other_ear" = true) (k4 : PySem.W.keepIn K (.ref f4) = true)
    (a5 : PySem.W.nsIn K mainGlobals "lacks" = some (some (.ref f5))) (l5 : K.lookup f5 = some ⟨oc5, od5, .func (PySem.W.fnOf "lacks" "lacks" (defArgs s_lacks) (defBody s_lacks) (defScope s_lacks) .none kV5 dc5 pm5 an5 cd5 ct5), sl5⟩) (c5 : PySem.W.codeIn K cd5 "lacks" = true) (k5 : PySem.W.keepIn K (.ref f5) = true)
    (a6 : PySem.W.nsIn K mainGlobals "_law_cell" = some (some (.ref f6))) (l6 : K.lookup f6 = some ⟨oc6, od6, .func (PySem.W.fnOf "_law_cell" "_law_cell" (defArgs s_cell) (defBody s_cell) (defScope s_cell) .none kV6 dc6 pm6 an6 cd6 ct6), sl6⟩) (c6 : PySem.W.codeIn K cd6 "_law_cell" = true) (k6 : PySem.W.keepIn K (.ref f6) = true)
    (a7 : PySem.W.nsIn K mainGlobals "deeper" = some (some (.ref f7))) (l7 : K.lookup f7 = some ⟨oc7, od7, .func (PySem.W.fnOf "deeper" "deeper" (defArgs s_deeper) (defBody s_deeper) (defScope s_deeper) .none kV7 dc7 pm7 an7 cd7 ct7), sl7⟩) (c7 : PySem.W.codeIn K cd7 "deeper" = true) (k7 : PySem.W.keepIn K (.ref f7) = true)
    (a8 : PySem.W.nsIn K mainGlobals "_law_whole" = some (some (.ref f8))) (l8 : K.lookup f8 = some ⟨oc8, od8, .func (PySem.W.fnOf "_law_whole" "_law_whole" (defArgs s_whole) (defBody s_whole) (defScope s_whole) .none kV8 dc8 pm8 an8 cd8 ct8), sl8⟩) (c8 : PySem.W.codeIn K cd8 "_law_whole" = true) (k8 : PySem.W.keepIn K (.ref f8) = true)
    (a9 : PySem.W.nsIn K mainGlobals "_law_like" = some (some (.ref f9))) (l9 : K.lookup f9 = some ⟨oc9, od9, .func (PySem.W.fnOf "_law_like" "_law_like" (defArgs s_like) (defBody s_like) (defScope s_like) .none kV9 dc9 pm9 an9 cd9 ct9), sl9⟩) (c9 : PySem.W.codeIn K cd9 "_law_like" = true) (k9 : PySem.W.keepIn K (.ref f9) = true)
    (a10 : PySem.W.nsIn K mainGlobals "apart" = some (some (.ref f10))) (l10 : K.lookup f10 = some ⟨oc10, od10, .func (PySem.W.fnOf "apart" "apart" (defArgs s_apart) (defBody s_apart) (defScope s_apart) .none kV10 dc10 pm10 an10 cd10 ct10), sl10⟩) (c10 : PySem.W.codeIn K cd10 "apart" = true) (k10 : PySem.W.keepIn K (.ref f10) = true)
    (a11 : PySem.W.nsIn K mainGlobals "_law_tears" = some (some (.ref f11))) (l11 : K.lookup f11 = some ⟨oc11, od11, .func (PySem.W.fnOf "_law_tears" "_law_tears" (defArgs s_tears) (defBody s_tears) (defScope s_tears) .none kV11 dc11 pm11 an11 cd11 ct11), sl11⟩) (c11 : PySem.W.codeIn K cd11 "_law_tears" = true) (k11 : PySem.W.keepIn K (.ref f11) = true)
    (a12 : PySem.W.nsIn K mainGlobals "_law_far" = some (some (.ref f12))) (l12 : K.lookup f12 = some ⟨oc12, od12, .func (PySem.W.fnOf "_law_far" "_law_far" (defArgs s_far) (defBody s_far) (defScope s_far) .none kV12 dc12 pm12 an12 cd12 ct12), sl12⟩) (c12 : PySem.W.codeIn K cd12 "_law_far" = true) (k12 : PySem.W.keepIn K (.ref f12) = true)
    (a13 : PySem.W.nsIn K mainGlobals "joint" = some (some (.ref f13))) (l13 : K.lookup f13 = some ⟨oc13, od13, .func (PySem.W.fnOf "joint" "joint" (defArgs s_joint) (defBody s_joint) (defScope s_joint) .none kV13 dc13 pm13 an13 cd13 ct13), sl13⟩) (c13 : PySem.W.codeIn K cd13 "joint" = true) (k13 : PySem.W.keepIn K (.ref f13) = true)
    (a14 : PySem.W.nsIn K mainGlobals "common" = some (some (.ref f14))) (l14 : K.lookup f14 = some ⟨oc14, od14, .func (PySem.W.fnOf "common" "common" (defArgs s_common) (defBody s_common) (defScope s_common) .none kV14 dc14 pm14 an14 cd14 ct14), sl14⟩) (c14 : PySem.W.codeIn K cd14 "common" = true) (k14 : PySem.W.keepIn K (.ref f14) = true)
    (a15 : PySem.W.nsIn K mainGlobals "law" = some (some (.ref f15))) (l15 : K.lookup f15 = some ⟨oc15, od15, .func (PySem.W.fnOf "law" "law" (defArgs s_law) (defBody s_law) (defScope s_law) .none kV15 dc15 pm15 an15 cd15 ct15), sl15⟩) (c15 : PySem.W.codeIn K cd15 "law" = true) (k15 : PySem.W.keepIn K (.ref f15) = true)
    (z_abs : PySem.W.nsIn K mainGlobals "abs" = some none)
    (z_range : PySem.W.nsIn K mainGlobals "range" = some none)
    (z_tuple : PySem.W.nsIn K mainGlobals "tuple" = some none)
    (z_max : PySem.W.nsIn K mainGlobals "max" = some none)
    (z_zip : PySem.W.nsIn K mainGlobals "zip" = some none)
    (z_min : PySem.W.nsIn K mainGlobals "min" = some none)
    (z_sum : PySem.W.nsIn K mainGlobals "sum" = some none)
    (z_len : PySem.W.nsIn K mainGlobals "len" = some none)
    (z_all : PySem.W.nsIn K mainGlobals "all" = some none)
    (z_isinstance : PySem.W.nsIn K mainGlobals "isinstance" = some none)
    (z_bool : PySem.W.nsIn K mainGlobals "bool" = some none)
    (z_int : PySem.W.nsIn K mainGlobals "int" = some none)
    (z_str : PySem.W.nsIn K mainGlobals "str" = some none)
    (z_list : PySem.W.nsIn K mainGlobals "list" = some none)
    : ∃ fd : FuncData, (∀ (s : Shared) (v : Value), BindsTo s fd ⟨[v], []⟩ [("_law_script", v)]) ∧ ∀ base : Heap, K.In base → base.Ns mainGlobals mg → FnOk l.prog w K mg base CX0 4 fa fd ["_law_script"] (sp_law K) := by
  have e := hfa.symm.trans (PySem.W.mg_of X G a15)
  cases e
  have F0 := fun_mk (st := s_row) l0 c0 k0
  have b0 := F0.binds (ps := ["_law_cell_here", "_law_many", "_law_base"]) fun _ _ _ _ _ _ us hl => match us, hl with | [_, _, _], _ => rfl
  have F1 := fun_mk (st := s_ear_by) l1 c1 k1
  have b1 := F1.binds (ps := ["_law_figures", "_law_mode"]) fun _ _ _ _ _ _ us hl => match us, hl with | [_, _], _ => rfl
  have F2 := fun_mk (st := s_ear) l2 c2 k2
  have b2 := F2.binds (ps := ["_law_cell_here"]) fun _ _ _ _ _ _ us hl => match us, hl with | [_], _ => rfl
  have F3 := fun_mk (st := s_near) l3 c3 k3
  have b3 := F3.binds (ps := ["_law_ear_here", "_law_figures"]) fun _ _ _ _ _ _ us hl => match us, hl with | [_, _], _ => rfl
  have F4 := fun_mk (st := s_other_ear) l4 c4 k4
  have b4 := F4.binds (ps := ["_law_ear_here", "_law_cell_here"]) fun _ _ _ _ _ _ us hl => match us, hl with | [_, _], _ => rfl
  have F5 := fun_mk (st := s_lacks) l5 c5 k5
  have b5 := F5.binds (ps := ["one", "other"]) fun _ _ _ _ _ _ us hl => match us, hl with | [_, _], _ => rfl
  have F6 := fun_mk (st := s_cell) l6 c6 k6
  have b6 := F6.binds (ps := ["_law_script", "_law_k"]) fun _ _ _ _ _ _ us hl => match us, hl with | [_, _], _ => rfl
  have F7 := fun_mk (st := s_deeper) l7 c7 k7
  have b7 := F7.binds (ps := ["shallow", "deep"]) fun _ _ _ _ _ _ us hl => match us, hl with | [_, _], _ => rfl
  have F8 := fun_mk (st := s_whole) l8 c8 k8
  have b8 := F8.binds (ps := ["_law_found"]) fun _ _ _ _ _ _ us hl => match us, hl with | [_], _ => rfl
  have F9 := fun_mk (st := s_like) l9 c9 k9
  have b9 := F9.binds (ps := ["_law_found", "_law_due"]) fun _ _ _ _ _ _ us hl => match us, hl with | [_, _], _ => rfl
  have F10 := fun_mk (st := s_apart) l10 c10 k10
  have b10 := F10.binds (ps := ["one", "other"]) fun _ _ _ _ _ _ us hl => match us, hl with | [_, _], _ => rfl
  have F11 := fun_mk (st := s_tears) l11 c11 k11
  have b11 := F11.binds (ps := ["_law_one", "_law_other"]) fun _ _ _ _ _ _ us hl => match us, hl with | [_, _], _ => rfl
  have F12 := fun_mk (st := s_far) l12 c12 k12
  have b12 := F12.binds (ps := ["_law_one", "_law_other"]) fun _ _ _ _ _ _ us hl => match us, hl with | [_, _], _ => rfl
  have F13 := fun_mk (st := s_joint) l13 c13 k13
  have b13 := F13.binds (ps := ["one", "other"]) fun _ _ _ _ _ _ us hl => match us, hl with | [_, _], _ => rfl
  have F14 := fun_mk (st := s_common) l14 c14 k14
  have b14 := F14.binds (ps := ["one", "other"]) fun _ _ _ _ _ _ us hl => match us, hl with | [_, _], _ => rfl
  have F15 := fun_mk (st := s_law) l15 c15 k15
  have b15 := F15.binds (ps := ["_law_script"]) fun _ _ _ _ _ _ us hl => match us, hl with | [_], _ => rfl

  let T : Txt K mg := { f_row := _, fd_row := _, F_row := F0, b_row := b0, g_row := PySem.W.mg_of X G a0, f_ear_by := _, fd_ear_by := _, F_ear_by := F1, b_ear_by := b1, g_ear_by := PySem.W.mg_of X G a1, f_ear := _, fd_ear := _, F_ear := F2, b_ear := b2, g_ear := PySem.W.mg_of X G a2, f_near := _, fd_near := _, F_near := F3, b_near := b3, g_near := PySem.W.mg_of X G a3, f_other_ear := _, fd_other_ear := _, F_other_ear := F4, b_other_ear := b4, g_other_ear := PySem.W.mg_of X G a4, f_lacks := _, fd_lacks := _, F_lacks := F5, b_lacks := b5, g_lacks := PySem.W.mg_of X G a5, f_cell := _, fd_cell := _, F_cell := F6, b_cell := b6, g_cell := PySem.W.mg_of X G a6, f_deeper := _, fd_deeper := _, F_deeper := F7, b_deeper := b7, g_deeper := PySem.W.mg_of X G a7, f_whole := _, fd_whole := _, F_whole := F8, b_whole := b8, g_whole := PySem.W.mg_of X G a8, f_like := _, fd_like := _, F_like := F9, b_like := b9, g_like := PySem.W.mg_of X G a9, f_apart := _, fd_apart := _, F_apart := F10, b_apart := b10, g_apart := PySem.W.mg_of X G a10, f_tears := _, fd_tears := _, F_tears := F11, b_tears := b11, g_tears := PySem.W.mg_of X G a11, f_far := _, fd_far := _, F_far := F12, b_far := b12, g_far := PySem.W.mg_of X G a12, f_joint := _, fd_joint := _, F_joint := F13, b_joint := b13, g_joint := PySem.W.mg_of X G a13, f_common := _, fd_common := _, F_common := F14, b_common := b14, g_common := PySem.W.mg_of X G a14, f_law := _, fd_law := _, F_law := F15, b_law := b15, g_law := PySem.W.mg_of X G a15, m_abs := PySem.W.mg_none_of X G z_abs, m_range := PySem.W.mg_none_of X G z_range, m_tuple := PySem.W.mg_none_of X G z_tuple, m_max := PySem.W.mg_none_of X G z_max, m_zip := PySem.W.mg_none_of X G z_zip, m_min := PySem.W.mg_none_of X G z_min, m_sum := PySem.W.mg_none_of X G z_sum, m_len := PySem.W.mg_none_of X G z_len, m_all := PySem.W.mg_none_of X G z_all, m_isinstance := PySem.W.mg_none_of X G z_isinstance, m_bool := PySem.W.mg_none_of X G z_bool, m_int := PySem.W.mg_none_of X G z_int, m_str := PySem.W.mg_none_of X G z_str, m_list := PySem.W.mg_none_of X G z_list }
  exact ⟨_, fun s v => .of_eq rfl, fun base _ _ => ok_law T⟩
end Ear
open PySem PySem.W PyProof.Rows
set_option maxHeartbeats 0 in
theorem PySem.Challenge.cw_earmarks_k08_tears_between_holds : PySem.Challenge.rw_earmarks_k08_tears_between.Holds := by
  w_on; o_law; k_head; (case hw => w_witness2)
  k_fill
  refine L2.walk_of (l := PySem.Challenge.rw_earmarks_k08_tears_between) (n := 63) (k := 4) (x := "_law_script") (CX := fun _ => L2.CX0) (sp := fun w => Ear.sp_law _) rfl (by decide) rfl ⟨rfl, by decide, by decide⟩ (fun w h Y => PySem.W.kIn_of Y) ?F (fun _ _ a ns hl _ hS => ⟨a, ns, rfl, hS, hl, fun _ => rfl⟩) (fun _ _ _ _ _ h => h)
  case F =>
    intro w mg fa h KX G hmg
    refine' Ear.all_mk KX G hmg ?a0 ?l0 ?c0 ?k0 ?a1 ?l1 ?c1 ?k1 ?a2 ?l2 ?c2 ?k2 ?a3 ?l3 ?c3 ?k3 ?a4 ?l4 ?c4 ?k4 ?a5 ?l5 ?c5 ?k5 ?a6 ?l6 ?c6 ?k6 ?a7 ?l7 ?c7 ?k7 ?a8 ?l8 ?c8 ?k8 ?a9 ?l9 ?c9 ?k9 ?a10 ?l10 ?c10 ?k10 ?a11 ?l11 ?c11 ?k11 ?a12 ?l12 ?c12 ?k12 ?a13 ?l13 ?c13 ?k13 ?a14 ?l14 ?c14 ?k14 ?a15 ?l15 ?c15 ?k15 ?z_abs ?z_range ?z_tuple ?z_max ?z_zip ?z_min ?z_sum ?z_len ?z_all ?z_isinstance ?z_bool ?z_int ?z_str ?z_list
    (case a0 => k_is)
    (case l0 => k_is)
    (case c0 => k_is)
    (case k0 => k_is)
    (case a1 => k_is)
    (case l1 => k_is)
    (case c1 => k_is)
    (case k1 => k_is)
    (case a2 => k_is)
    (case l2 => k_is)
    (case c2 => k_is)
    (case k2 => k_is)
    (case a3 => k_is)
    (case l3 => k_is)
    (case c3 => k_is)
    (case k3 => k_is)
    (case a4 => k_is)
    (case l4 => k_is)
    (case c4 => k_is)
    (case k4 => k_is)
    (case a5 => k_is)
    (case l5 => k_is)
    (case c5 => k_is)
    (case k5 => k_is)
    (case a6 => k_is)
    (case l6 => k_is)
    (case c6 => k_is)
    (case k6 => k_is)
    (case a7 => k_is)
    (case l7 => k_is)
    (case c7 => k_is)
    (case k7 => k_is)
    (case a8 => k_is)
    (case l8 => k_is)
    (case c8 => k_is)
    (case k8 => k_is)
    (case a9 => k_is)
    (case l9 => k_is)
    (case c9 => k_is)
    (case k9 => k_is)
    (case a10 => k_is)
    (case l10 => k_is)
    (case c10 => k_is)
    (case k10 => k_is)
    (case a11 => k_is)
    (case l11 => k_is)
    (case c11 => k_is)
    (case k11 => k_is)
    (case a12 => k_is)
    (case l12 => k_is)
    (case c12 => k_is)
    (case k12 => k_is)
    (case a13 => k_is)
    (case l13 => k_is)
    (case c13 => k_is)
    (case k13 => k_is)
    (case a14 => k_is)
    (case l14 => k_is)
    (case c14 => k_is)
    (case k14 => k_is)
    (case a15 => k_is)
    (case l15 => k_is)
    (case c15 => k_is)
    (case k15 => k_is)
    (case z_abs => k_is)
    (case z_range => k_is)
    (case z_tuple => k_is)
    (case z_max => k_is)
    (case z_zip => k_is)
    (case z_min => k_is)
    (case z_sum => k_is)
    (case z_len => k_is)
    (case z_all => k_is)
    (case z_isinstance => k_is)
    (case z_bool => k_is)
    (case z_int => k_is)
    (case z_str => k_is)
    (case z_list => k_is)

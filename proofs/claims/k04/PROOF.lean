import PyProof.Rows.All
import Wide.All
import OpenK.AllK
import Wide.FinOn
import HandS.ForMost
import HandS.Evl
import HandS.Walk
import HandS.Zip
import HandS.IsInst
import HandS.Style
import HandS.FStr
import HandS.Strs
import HandS.TupAny
import HandS.Deep
import HandS.Exc
import HandS.TryOnly
import HandS.ExcOwn
import HandS.WordsExc
import KE.GoesMore
import KE.GoesEnum
import PySem.Challenge.RW_earmarks_k04_ears_written
set_option Elab.async false
set_option linter.all false
set_option maxRecDepth 100000
set_option maxHeartbeats 2000000
namespace Ear
open PySem PySem.Spec PyProof.Rows L2 Evl RZ
theorem hu65 {A : Around} {k : Nat} (r : Room k A) : A.units + 65 < cLine := by
  have := r.un
  omega
/-! ### zip(tuple, list) -/
def ItTL (K : PySem.W.Frag) (a b : Addr) : It where
  go := fun i H => ∃ (xs ys : List V) (x y : V), SqT K H a xs ∧ SqL K H b ys ∧ xs[i]? = some x ∧ ys[i]? = some y
  yld := fun i H v H' => ∃ T x y, v = .ref T ∧ H T = none ∧ H' = upd H T (.tup [x, y]) ∧ (∀ xs, SqT K H a xs → xs[i]? = some x) ∧ ∀ ys, SqL K H b ys → ys[i]? = some y
  stop := fun i H => ∃ xs ys : List V, SqT K H a xs ∧ SqL K H b ys ∧ i ≤ xs.length ∧ i ≤ ys.length ∧ (xs.length = i ∨ ys.length = i)
theorem sepTL {z TI TO i1 i2 a b : Addr} (D : ZipApart z TI TO i1 i2 a b) : ZipSep2 z TI TO i1 i2 [i1, a] [i2, b] where
  TIz := D.TIz
  TOz := D.TOz
  TITO := D.TITO
  TIi1 := D.TIi1
  mem1 := by simp
  zf1 := by simp [D.i1z.symm, D.l1z.symm]
  Tf1 := by simp [D.TOi1, D.l1TO.symm]
  TIi2 := D.TIi2
  mem2 := by simp
  zf2 := by simp [D.i2z.symm, D.l2z.symm]
  Tf2 := by simp [D.TOi2, D.l2TO.symm]
  sep1_2 := by simp [D.i12, D.l2i1.symm]
  sep2_1 := by simp [D.i12.symm, D.l1i2.symm]
theorem turnTL {P : Program} {w : World} {K : PySem.W.Frag} {elts : List Expr} {kk : Nat} {tpos : Pos} {a b z TI TO i1 i2 : Addr} (D : ZipApart z TI TO i1 i2 a b) :
    Turn P w K (.Tuple elts kk tpos) (ItTL K a b) [z, TI, TO, i1, i2] z (fun n h => IsZip h z TI TO .none ∧ IsPair h TI (.ref i1) (.ref i2) ∧ (∃ x y, IsPair h TO x y) ∧ h.IsTupleIter i1 a n ∧ h.IsListIter i2 b n) where
  mem := by simp
  obj := fun n h q c hc => by
    obtain ⟨gz, gI, ⟨x, y, gO⟩, ⟨o1, e1, _, d1⟩, ⟨o2, e2, _, d2⟩⟩ := q
    simp only [List.mem_cons, List.not_mem_nil, or_false] at hc
    rcases hc with rfl | rfl | rfl | rfl | rfl
    · exact ⟨_, gz, fun v q => nomatch q⟩
    · exact ⟨_, gI, fun v q => nomatch q⟩
    · exact ⟨_, gO, fun v q => nomatch q⟩
    · exact ⟨o1, e1, fun v q => by rw [d1] at q; cases q⟩
    · exact ⟨o2, e2, fun v q => by rw [d2] at q; cases q⟩
  keep := fun n h h' q k => by
    obtain ⟨gz, gI, ⟨x, y, gO⟩, g1, g2⟩ := q
    refine ⟨k z (by simp) _ gz, k TI (by simp) _ gI, ⟨x, y, k TO (by simp) _ gO⟩, ?_, ?_⟩
    · exact g1.at fun o e => k i1 (by simp) o e
    · exact g2.at fun o e => k i2 (by simp) o e
  item := by
    intro X hP hw hK hc n pins s σ H E I hf q hg
    subst hP hw hK
    obtain ⟨gz, gI, ⟨x0, y0, gO⟩, g1, g2⟩ := q
    obtain ⟨xs, ys, x, y, qx, qy, hx, hy⟩ := hg
    obtain ⟨as, rv, p, _⟩ := I.tuple qx
    obtain ⟨bs, rv2, p2, _⟩ := I.list qy
    obtain ⟨u, hu, ru⟩ := rv.get hx
    obtain ⟨u2, hu2, ru2⟩ := rv2.get hy
    have hzl : z < s.heap.objs.size := Heap.lt_size gz
    have hA : X.A.handled = none := I.ok.hd hc
    have n1 : n < as.toArray.size := by
      have := (List.getElem?_eq_some_iff.mp hu).1
      simpa using this
    have n2 : n < bs.toArray.size := by
      have := (List.getElem?_eq_some_iff.mp hu2).1
      simpa using this
    refine wpAny_pyNext_zipD2_item (sepTL D) (Draws.tuple (A := X.A.in1) hA i1 a D.l1i1 as.toArray) (Draws.list (A := X.A.in1) hA i2 b D.l2i2 bs.toArray) gz gI gO ⟨g1, p⟩ ⟨g2, p2.isList⟩ n1 n2 fun v1 v2 h' tk hv1 hv2 z' TO' s1 s2 hT hsz hk => ?_
    have ev1 : v1 = u := Option.some.inj (hv1.symm.trans (by simpa using hu))
    have ev2 : v2 = u2 := Option.some.inj (hv2.symm.trans (by simpa using hu2))
    subst ev1 ev2
    refine ⟨_, rfl, wpAny_letOwnedTupleGo_zip (s := { s with heap := h', toks := tk }) z' fun h'' z'' sb => ?_⟩
    have hT2 : h''.get? s.heap.objs.size = some { cls := .type "tuple", data := .seq #[v1, v2] } := (sb.2 _ (Nat.ne_of_gt hzl)).trans hT
    have new : ObjOk X.prog X.w (upd H s.heap.objs.size (.tup [x, y])) h'' s.heap.objs.size (.tup [x, y]) := by
      refine ⟨by show 2 ≤ sizeLine; decide, [v1, v2], .cons ru (.cons ru2 .nil), ?_⟩
      exact ⟨_, hT2, rfl, _, rfl⟩
    have I1 : Inv X pins σ (upd H s.heap.objs.size (.tup [x, y])) { s with heap := h'', toks := tk } := by
      refine I.turnedNew (t' := tk) (ch := [z, TI, TO, i1, i2]) (fun c o hb e => ?_) hf ?_ new
      · simp only [List.mem_cons, List.not_mem_nil, or_false, not_or] at hb
        obtain ⟨b1, b2, b3, b4, b5⟩ := hb
        exact (sb.2 c b1).trans (hk c o b1 b3 b4 b5 e)
      · exact Nat.le_refl _
    refine ⟨.ref s.heap.objs.size, _, I1, rfl, ⟨_, x, y, rfl, I.hok.fresh (Nat.le_refl _), rfl, ?_, ?_⟩, ⟨z'', ?_, ⟨v1, v2, ?_⟩, ?_, ?_⟩, fun c hcm => ?_⟩
    · intro l hl
      rw [I.tuple_inj hl qx]
      exact hx
    · intro l hl
      rw [I.list_inj hl qy]
      exact hy
    · exact (sb.2 _ D.TIz).trans (hk _ _ D.TIz D.TITO D.TIi1 D.TIi2 gI)
    · exact (sb.2 _ D.TOz).trans TO'
    · exact s1.1.at fun o e => (sb.2 _ D.i1z).trans e
    · exact s2.1.at fun o e => (sb.2 _ D.i2z).trans e
    · have hlt : c < s.heap.objs.size := by
        simp only [List.mem_cons, List.not_mem_nil, or_false] at hcm
        rcases hcm with rfl | rfl | rfl | rfl | rfl
        · exact hzl
        · exact Heap.lt_size gI
        · exact Heap.lt_size gO
        · obtain ⟨_, e1, _⟩ := g1
          exact Heap.lt_size e1
        · obtain ⟨_, e2, _⟩ := g2
          exact Heap.lt_size e2
      rw [upd_ne (Nat.ne_of_lt hlt)]
      exact (hf c hcm).1
  done := by
    intro X hP hw hK hc n pins s σ H E I hf q hg
    subst hP hw hK
    obtain ⟨gz, gI, ⟨x0, y0, gO⟩, g1, g2⟩ := q
    obtain ⟨xs, ys, qx, qy, la, lb, hend⟩ := hg
    obtain ⟨as, rv, p, _⟩ := I.tuple qx
    obtain ⟨bs, rv2, p2, _⟩ := I.list qy
    have hA : X.A.handled = none := I.ok.hd hc
    have l1 := rv.length
    have l2 := rv2.length
    refine wpAny_pyNext_zipD2_end (sepTL D) (Draws.tuple (A := X.A.in1) hA i1 a D.l1i1 as.toArray) (Draws.list (A := X.A.in1) hA i2 b D.l2i2 bs.toArray) gz gI gO ⟨g1, p⟩ ⟨g2, p2.isList⟩ (by simp; omega) (by simp; omega) (by simp; omega) fun h' tk hk => ⟨rfl, ?_⟩
    refine I.turnedL (t' := tk) (ch := [z, TI, TO, i1, i2]) (fun c o hb e => ?_) hf
    simp only [List.mem_cons, List.not_mem_nil, or_false, not_or] at hb
    obtain ⟨b1, b2, b3, b4, b5⟩ := hb
    exact hk c o b1 b3 b4 b5 e
  self := fun A n s Q E q h => wpAny_pyIter_zip q.1 h
def iTL (K : PySem.W.Frag) (ta : TA) : TI := fun σ H R => ta σ H fun vs H1 => ∃ a b xs ys, vs = [.ref a, .ref b] ∧ SqT K H1 a xs ∧ SqL K H1 b ys ∧ R (ItTL K a b) H1
theorem pi_zipTL {X : Cx} {e e2 : Expr} {ta : TA} {p pos tpos : Pos} {elts : List Expr} {kk : Nat} (hg : Gl X "zip") (hm : X.mg "zip" = none) (ha : PA X [e, e2] ta)
    (hs : starEach [e, e2] X.env = (false, eval e X.env) :: starEach [e2] X.env := by rfl) (hq : (backTo pos (starEach [e2] X.env)).any (·.1) = false := by rfl) :
    PI X (.Tuple elts kk tpos) (.Call (.Name "zip" p) [e, e2] [] pos) (iTL X.K ta) := by
  constructor
  intro pins s σ H R I h
  refine Call_ (ld_blt I hg hm PyProof.Rows.boot_zip (PyProof.Rows.callWith_type1 (thn (ha.run pos pins s σ H _ I h) ?_) hs hq))
  rintro us s1 ⟨vs, H1, I1, r1, q1⟩
  obtain ⟨a, b, xs, ys, rfl, qx, qy, q⟩ := q1
  cases r1 with
  | cons r rr =>
    cases rr with
    | cons r' rr =>
      cases rr
      cases r
      cases r'
      obtain ⟨as, rv, p1, _⟩ := I1.tuple qx
      obtain ⟨bs, rv2, p2, _⟩ := I1.list qy
      obtain ⟨o1, ho1, _⟩ := id p1
      obtain ⟨o2, ho2, _⟩ := id p2.isList
      refine zip_begins2 (begins_tuple a as.toArray) (begins_list b bs.toArray) p1 p2.isList fun h' hz hTI hTO h1 h2 hsz hk => wpAny_pyIter_zip hz ?_
      have I2 : Inv X pins σ H1 { s1 with heap := h' } := I1.kept (t' := s1.toks) hk
      have F5 : ∀ c, c ∈ [s1.heap.objs.size + 4, s1.heap.objs.size + 2, s1.heap.objs.size + 3, s1.heap.objs.size, s1.heap.objs.size + 1] → FpOk X pins H1 c := by
        intro c hcm
        have hle : s1.heap.objs.size ≤ c := by
          simp only [List.mem_cons, List.not_mem_nil, or_false] at hcm
          rcases hcm with rfl | rfl | rfl | rfl | rfl
          · exact Nat.le_add_right _ _
          · exact Nat.le_add_right _ _
          · exact Nat.le_add_right _ _
          · exact Nat.le_refl _
          · exact Nat.le_add_right _ _
        exact I1.fpOk hle (I1.hok.fresh hle)
      refine ⟨s1.heap.objs.size + 4, _, _, _, H1, rfl, I2, turnTL (PySem.W.ktu_apart s1.heap.objs.size a b (Heap.lt_size ho1) (Heap.lt_size ho2)), ⟨hz, hTI, ⟨_, _, hTO⟩, ?_, ?_⟩, F5, q⟩
      · exact ⟨_, h1, rfl, rfl⟩
      · exact ⟨_, h2, rfl, rfl⟩
/-! ### x is True, x is False: x anything -/
def rIsT : R2 := fun x y H Q => ∃ b : Bool, y = .bl b ∧ Q (.bl (decide (x = .bl b))) H
theorem op_isT {X : Cx} : OpR X (compareOp .Is) rIsT := by
  intro pins s σ H x y v u Q I rx ry h
  obtain ⟨b, rfl, q⟩ := h
  cases (show u = Value.bool b from ry)
  by_cases e : x = .bl b
  · subst e
    cases (show v = Value.bool b from rx)
    exact wpAny_is_self rfl ⟨.bl true, H, I, rfl, by simpa using q⟩
  · have hne : v ≠ Value.bool b := by
      intro z
      apply e
      subst z
      cases x <;> first
        | (cases rx <;> rfl)
        | (obtain ⟨t, ht⟩ := rx; cases ht)
    have hq : Q (.bl false) H := by
      rw [decide_eq_false e] at q
      exact q
    refine wpAny_is_other ?_ hne ⟨.bl false, H, I, rfl, hq⟩
    cases x <;> first
      | (cases rx <;> rfl)
      | (obtain ⟨t, ht⟩ := rx; cases ht; rfl)
/-! ### an own exception made with nothing -/
section
variable {X : Cx} {C : Addr} {bmB : List Value} {B newId initId : String}
theorem pmk_own0 {x : Str} {p pos : Pos} (F : ExcBaseFacts B newId initId bmB) (q : PySem.W.excIn X.K C bmB newId = true) (gC : X.mg x = some (.ref C)) (kC : PySem.W.keepIn X.K (.ref C) = true) (r : Raises X (.ref C)) (hg : Gl X x)
    (hn : (x == ("__debug__" : Str)) = false := by decide) : PMk X (.Call (.Name x p) [] [] pos) (fun _ H Q => Q (.ref C) none H) := by
  intro pins s σ H Q I h
  refine wpAny_Call_Name_kw (ld_glob I hg gC ?_ hn)
  refine PySem.W.callWith_K0 I.kIn kC ?_
  show wpAny _ _ (call (.ref C) []) _ _ _
  obtain ⟨bm, N, nm, qn, bs, hdct, sn, sub, ab, col, dd, k0, k1, k2, k3, k5, mN, hC, hN, hni, T⟩ := exc_obj I.kIn q
  refine wpAny_call_exc_subT F T hC hN hni (fun h' e hm => ?_) (Nat.zero_le _)
  exact mk_of I hm r h (I.hok.gone hm.new)
end
theorem exm_one {K : PySem.W.Frag} {S : Addr} (h1 : PySem.W.subIn K (.ref S) (.type "BaseException") = some true) (h2 : PySem.W.isClsIn K S = true) (h3 : PySem.W.typeIn K (.ref S) = some (.type "type")) (h4 : PySem.W.subIn K (.ref S) (.ref S) = some true) :
    PySem.W.exmOne K (.ref S) (.ref S) = some true := by
  have e1 : (PySem.W.subIn K (.ref S) (.type "BaseException") == some true) = true := by rw [h1] <;> rfl
  have e2 : ((PySem.W.clsIn K S).isSome && PySem.W.typeIn K (.ref S) == some (.type "type")) = true := by
    rw [h3, Bool.and_eq_true]
    exact ⟨h2, rfl⟩
  show (if (PySem.W.subIn K (.ref S) (.type "BaseException") == some true) = true then (if ((PySem.W.clsIn K S).isSome && PySem.W.typeIn K (.ref S) == some (.type "type")) = true then PySem.W.subIn K (.ref S) (.ref S) else none) else none) = some true
  rw [if_pos e1, if_pos e2]
  exact h4
/-! ### walks of zip -/
theorem walkTT {K : PySem.W.Frag} {a b : Addr} {xs ys : List V} (hl : xs.length = ys.length) :
    Walk (ItzT K a b) xs.length (fun H => SqT K H a xs ∧ SqT K H b ys) (YPair (fun i => xs[i]?) (fun i => ys[i]?)) where
  goes := fun i H hi q => ⟨xs, ys, xs[i], ys[i]'(by omega), q.1, q.2, by simp, by simp⟩
  stops := fun H q => ⟨xs, ys, q.1, q.2, Or.inl (Nat.le_refl _)⟩
  yields := fun i H v H' _ q y => by
    obtain ⟨T, x, z, h1, h2, h3, h4, h5⟩ := y
    exact ⟨T, x, z, h1, h2, h3, h4 xs q.1, h5 ys q.2⟩
theorem walkLL {K : PySem.W.Frag} {a b : Addr} {xs ys : List V} (hl : xs.length = ys.length) :
    Walk (Itz K a b) xs.length (fun H => SqL K H a xs ∧ SqL K H b ys) (YPair (fun i => xs[i]?) (fun i => ys[i]?)) := walk_zip (by omega)
theorem walkTL {K : PySem.W.Frag} {a b : Addr} {xs ys : List V} (hl : xs.length = ys.length) :
    Walk (ItTL K a b) xs.length (fun H => SqT K H a xs ∧ SqL K H b ys) (YPair (fun i => xs[i]?) (fun i => ys[i]?)) where
  goes := fun i H hi q => ⟨xs, ys, xs[i], ys[i]'(by omega), q.1, q.2, by simp, by simp⟩
  stops := fun H q => ⟨xs, ys, q.1, q.2, Nat.le_refl _, by omega, Or.inl rfl⟩
  yields := fun i H v H' _ q y => by
    obtain ⟨T, x, z, h1, h2, h3, h4, h5⟩ := y
    exact ⟨T, x, z, h1, h2, h3, h4 xs q.1, h5 ys q.2⟩
/-- any walk, whatever is done with what it gives -/
theorem any_it {J : It} {n : Nat} {G : Hp → Prop} {Y : Nat → Hp → V → Hp → Prop} (w : Walk J n G Y) {H0 : Hp} {Qd : Hp → Prop} {B : V → Hp → (Hp → Prop) → Prop} (Pv : Nat → Hp → Prop) (h0 : Pv 0 H0) (hG : ∀ i H, i ≤ n → Pv i H → G H)
    (hs : ∀ i x H H', i < n → Pv i H → Y i H x H' → B x H' (Pv (i + 1))) (hd : ∀ H, Pv n H → Qd H) :
    ∃ W : Nat → Nat → Hp → Prop, (∃ m, W 0 m H0) ∧ ∀ i m H, W i m H → (J.stop i H ∧ Qd H) ∨ (J.go i H ∧ ∃ Nx : Hp → Prop, (∀ H', Nx H' → ∃ m', m' < m ∧ W (i + 1) m' H') ∧ ∀ x H', J.yld i H x H' → B x H' Nx) := by
  refine ⟨fun i m H => m = n - i ∧ i ≤ n ∧ Pv i H, ⟨n, rfl, Nat.zero_le _, h0⟩, ?_⟩
  rintro i m H ⟨rfl, hi, p⟩
  have q := hG i H hi p
  by_cases hlt : i < n
  · exact Or.inr ⟨w.goes i H hlt q, Pv (i + 1), fun H' p' => ⟨n - (i + 1), by omega, rfl, hlt, p'⟩, fun x H' y => hs i x H H' hlt p (w.yields i H x H' hlt q y)⟩
  · have e : i = n := by omega
    subst e
    exact Or.inl ⟨w.stops H q, hd H p⟩
/-! ### comprehensions -/
abbrev gTwo (K : PySem.W.Frag) (i j : Nat) : TG := gTup K 2 (gCons (gName i) (gCons (gName j) gNil))
theorem gTwo_of {K : PySem.W.Frag} {i j : Nat} {x y : V} {T : Addr} {σ : L2.St} {H : Hp} {Q : L2.St → Hp → Prop} (q : Q ((σ.set i (some x)).set j (some y)) (upd H T (.tup [x, y]))) :
    gTwo K i j (.ref T) σ (upd H T (.tup [x, y])) Q := ⟨T, [x, y], rfl, Or.inl (Or.inl upd_same), rfl, x, [y], rfl, y, [], rfl, rfl, q⟩
theorem gTwo_at {K : PySem.W.Frag} {i j : Nat} {x y : V} {T : Addr} {σ : L2.St} {H : Hp} {Q : L2.St → Hp → Prop} (h : H T = some (.tup [x, y])) (q : Q ((σ.set i (some x)).set j (some y)) H) :
    gTwo K i j (.ref T) σ H Q := ⟨T, [x, y], rfl, Or.inl (Or.inl h), rfl, x, [y], rfl, y, [], rfl, rfl, q⟩
theorem yes_if {σ : L2.St} {H : Hp} {A B : Hp → Prop} (h : A H) : tYes σ H (fun b H3 => if b = true then A H3 else B H3) := h
/-- what the first n pairs give -/
def pick (c : V → V → Bool) (g : V → V → V) (zs : List (V × V)) : List V := (zs.filter fun p => c p.1 p.2).map fun p => g p.1 p.2
theorem pick_len (c : V → V → Bool) (g : V → V → V) (zs : List (V × V)) : (pick c g zs).length ≤ zs.length := by
  unfold pick
  rw [List.length_map]
  exact List.length_filter_le _ _
theorem pick_yes {c : V → V → Bool} {g : V → V → V} {zs : List (V × V)} {x y : V} (h : c x y = true) : pick c g (zs ++ [(x, y)]) = pick c g zs ++ [g x y] := by
  unfold pick
  rw [List.filter_append, List.map_append]
  simp [h]
theorem pick_no {c : V → V → Bool} {g : V → V → V} {zs : List (V × V)} {x y : V} (h : c x y = false) : pick c g (zs ++ [(x, y)]) = pick c g zs := by
  unfold pick
  rw [List.filter_append]
  simp [h]
theorem zip_next {xs ys : List V} {i : Nat} {x y : V} (hx : xs[i]? = some x) (hy : ys[i]? = some y) : (xs.zip ys).take (i + 1) = (xs.zip ys).take i ++ [(x, y)] := by
  have h : (xs.zip ys)[i]? = some (x, y) := by
    rw [List.getElem?_zip_eq_some]
    exact ⟨hx, hy⟩
  rw [List.take_add_one, h]
  rfl
theorem zip_mem {xs ys : List V} {i : Nat} {x y : V} (hx : xs[i]? = some x) (hy : ys[i]? = some y) : (x, y) ∈ xs.zip ys := by
  have h : (xs.zip ys)[i]? = some (x, y) := by
    rw [List.getElem?_zip_eq_some]
    exact ⟨hx, hy⟩
  exact List.mem_of_getElem? h
section
variable {K : PySem.W.Frag} {σ : L2.St} {H : Hp} {te tl : TE} {tt : TT} {vs : List Nat}
theorem lc_pairs {J : It} {G : Hp → Prop} {xs ys : List V} {i j : Nat} {H1 : Hp} {D : Addr} {Qd : Hp → Prop} (w : Walk J xs.length G (YPair (fun i => xs[i]?) (fun i => ys[i]?))) (hl : xs.length = ys.length) (hz : xs.length ≤ 1000) (c : V → V → Bool) (g : V → V → V)
    (hD : H1 D = none) (hG : ∀ H', Ex H1 H' → G H') (hw : ∀ x y, wipe (((wipe σ vs).set i (some x)).set j (some y)) vs = wipe σ vs)
    (ht : ∀ x y H', Ex H1 H' → (x, y) ∈ xs.zip ys → EvT tt (((wipe σ vs).set i (some x)).set j (some y)) H' (c x y))
    (he : ∀ x y H', Ex H1 H' → (x, y) ∈ xs.zip ys → c x y = true → Ev te (((wipe σ vs).set i (some x)).set j (some y)) H' (g x y))
    (hd : ∀ H', Ex H1 H' → H' D = some (.lst (pick c g (xs.zip ys))) → Qd H') :
    ∃ W : Nat → Nat → Hp → Prop, (∃ m, W 0 m (upd H1 D (.lst []))) ∧ ∀ n m H, W n m H →
      (J.stop n H ∧ Qd H) ∨ (J.go n H ∧ ∃ Nx : Hp → Prop, (∀ H', Nx H' → ∃ m', m' < m ∧ W (n + 1) m' H') ∧ ∀ x H', J.yld n H x H' → gTwo K i j x (wipe σ vs) H' fun σ2 H2 => wipe σ2 vs = wipe σ vs ∧ tt σ2 H2 fun b H3 =>
        if b = true then te σ2 H3 fun y H4 => ∃ acc, H4 D = some (.lst acc) ∧ acc.length < sizeLine ∧ Nx (upd H4 D (.lst (acc ++ [y]))) else Nx H3) := by
  refine lc_it w (fun n H' => Ex H1 H' ∧ H' D = some (.lst (pick c g ((xs.zip ys).take n)))) ⟨Ex.new hD, upd_same⟩ (fun n H' _ p => hG H' p.1) ?_ ?_
  · rintro n v H' H'' hn ⟨p1, p2⟩ ⟨T, x, y, rfl, nT, rfl, hx, hy⟩
    have dT : D ≠ T := ne_of_none p2 nT
    have eT : Ex H1 (upd H' T (.tup [x, y])) := p1.trans (Ex.new nT)
    have pD : (upd H' T (.tup [x, y])) D = some (.lst (pick c g ((xs.zip ys).take n))) := by
      rw [upd_ne dT]
      exact p2
    refine gTwo_of ⟨hw x y, ?_⟩
    refine ht x y _ eT (zip_mem hx hy) _ (Ex.refl _) _ fun H3 e3 => ?_
    cases hc : c x y with
    | true =>
      refine iteT ?_
      refine he x y _ eT (zip_mem hx hy) hc H3 e3 _ fun H4 e4 => ⟨_, e4 D _ (e3 D _ pD), sz_lt ?_, Ex.mut ((eT.trans e3).trans e4) hD, ?_⟩
      · have h1 := pick_len c g ((xs.zip ys).take n)
        have h2 : ((xs.zip ys).take n).length ≤ n := List.length_take_le _ _
        omega
      · rw [zip_next hx hy, pick_yes hc]
        exact upd_same
    | false =>
      refine iteF ?_
      refine ⟨eT.trans e3, ?_⟩
      rw [zip_next hx hy, pick_no hc]
      exact e3 D _ pD
  · rintro H' ⟨p1, p2⟩
    refine hd H' p1 ?_
    rw [List.take_of_length_le (by rw [List.length_zip]; omega)] at p2
    exact p2
/-- [e for x, y in zip(a, b) if ..], two tuples -/
theorem el_zip {a b : Addr} {xs ys : List V} {ta : TA} {i j : Nat} (c : V → V → Bool) (g : V → V → V) (h : EvA ta σ H [.ref a, .ref b]) (hx : SqT K H a xs) (hy : SqT K H b ys) (hl : xs.length = ys.length) (hz : xs.length ≤ 1000)
    (hw : ∀ x y, wipe (((wipe σ vs).set i (some x)).set j (some y)) vs = wipe σ vs)
    (ht : ∀ x y H', Ex H H' → (x, y) ∈ xs.zip ys → EvT tt (((wipe σ vs).set i (some x)).set j (some y)) H' (c x y))
    (he : ∀ x y H', Ex H H' → (x, y) ∈ xs.zip ys → c x y = true → Ev te (((wipe σ vs).set i (some x)).set j (some y)) H' (g x y)) :
    EvL (tLc (iZipA K ta) (gTwo K i j) tt te vs) σ H (pick c g (xs.zip ys)) := fun H0 e Q q => h H0 e _ fun H1 e1 =>
  ⟨a, b, xs, ys, rfl, Or.inr ⟨ex_t (e.trans e1) hx, ex_t (e.trans e1) hy, fun D hD => lc_pairs (walkTT hl) hl hz c g hD (fun H' e2 => ⟨ex_t ((e.trans e1).trans e2) hx, ex_t ((e.trans e1).trans e2) hy⟩) hw
    (fun x y H' e2 m => ht x y H' ((e.trans e1).trans e2) m) (fun x y H' e2 m hc => he x y H' ((e.trans e1).trans e2) m hc) fun H' e2 h2 => q D H' (fresh_back e1 hD) (e1.trans e2) h2⟩⟩
theorem et_yes : EvT tYes σ H true := fun H1 _ _ q => q H1 (Ex.refl H1)
theorem pick_all (g : V → V → V) (zs : List (V × V)) : pick (fun _ _ => true) g zs = zs.map fun p => g p.1 p.2 := by
  unfold pick
  rw [List.filter_eq_self.mpr (fun _ _ => rfl)]
/-- [e for x in xs] -/
theorem given_map {xs : List V} (g : V → V) : given xs.length (fun _ => true) (fun i => g (xs.getD i .non)) = xs.map g := by
  unfold given
  rw [List.filter_eq_self.mpr (fun _ _ => rfl)]
  apply List.ext_getElem
  · simp
  · intro i h1 h2
    have hi : i < xs.length := by simpa using h2
    rw [List.getElem_map, List.getElem_map, List.getElem_range, List.getD_eq_getElem?_getD, List.getElem?_eq_getElem hi]
    rfl
theorem el_map {a : Addr} {xs : List V} {j : Nat} (g : V → V) (h : Ev tl σ H (.ref a)) (hx : SqL K H a xs) (hz : xs.length ≤ 1000) (hw : ∀ x, wipe ((wipe σ vs).set j (some x)) vs = wipe σ vs)
    (he : ∀ x ∈ xs, ∀ H1, Ex H H1 → Ev te ((wipe σ vs).set j (some x)) H1 (g x)) : EvL (tLc (iList K tl) (gName j) tYes te vs) σ H (xs.map g) := by
  have r := el_lcL (K := K) (t := tYes) (te := te) (tl := tl) (j := j) (vs := vs) (σ := σ) (H := H) (fun _ => true) (fun i => g (xs.getD i .non)) h hx (by omega) hw (fun _ _ _ _ _ => et_yes) (fun i x H1 e1 hi _ => by
    have hm := List.mem_of_getElem? hi
    have e0 : xs.getD i .non = x := by
      rw [List.getD_eq_getElem?_getD, hi]
      rfl
    rw [e0]
    exact he x hm H1 e1)
  rw [given_map] at r
  exact r
/-- tuple([..]) of a new list -/
theorem eu_tuple {xs : List V} (h : EvL te σ H xs) : EvU (tCB (fun xs H Q => ∃ p ys, xs = [.ref p] ∧ ((SqL K H p ys ∧ ∀ l, H l = none → Q (.ref l) (upd H l (.tup ys))) ∨ (SqT K H p ys ∧ Q (.ref p) H))) (tCons te tNil)) σ H xs := fun H1 e Q q =>
  h H1 e _ fun p H2 hp e2 h2 => ⟨p, xs, rfl, Or.inl ⟨sq_of h2, fun l hl => q l _ (fresh_back e2 hl) (e2.trans (Ex.new hl)) upd_same⟩⟩
/-- tuple(xs), xs a list that stands -/
theorem eu_tupleL {a : Addr} {xs : List V} (h : Ev te σ H (.ref a)) (hx : SqL K H a xs) : EvU (tCB (fun xs H Q => ∃ p ys, xs = [.ref p] ∧ ((SqL K H p ys ∧ ∀ l, H l = none → Q (.ref l) (upd H l (.tup ys))) ∨ (SqT K H p ys ∧ Q (.ref p) H))) (tCons te tNil)) σ H xs := fun H1 e Q q =>
  h H1 e _ fun H2 e2 => ⟨a, xs, rfl, Or.inl ⟨ex_l (e.trans e2) hx, fun l hl => q l _ (fresh_back e2 hl) (e2.trans (Ex.new hl)) upd_same⟩⟩
theorem ev_all {bs : List Bool} (h : EvL te σ H (bs.map V.bl)) : Ev (tCB (rAll K) (tCons te tNil)) σ H (.bl (bs.all id)) := fun H1 e Q q =>
  h H1 e _ fun p H2 _ e2 h2 => ⟨p, bs, rfl, sq_of h2, q H2 e2⟩
theorem ev_sum {ns : List Int} (h : EvL te σ H (ns.map V.int)) : Ev (tCB (rSum K) (tCons te tNil)) σ H (.int ns.sum) := fun H1 e Q q =>
  h H1 e _ fun p H2 _ e2 h2 => ⟨p, ns, rfl, sq_of h2, q H2 e2⟩
end
theorem max2 (i j : Int) : (if j > i then j else i) = max i j := by omega
theorem min2 (i j : Int) : (if j < i then j else i) = min i j := by omega
section
variable {σ : L2.St} {H : Hp} {ta tb : TE}
theorem ev_max {i j : Int} (ha : Ev ta σ H (.int i)) (hb : Ev tb σ H (.int j)) : Ev (tCB (fun xs H Q => ∃ i j, xs = [.int i, .int j] ∧ Q (.int (if j > i then j else i)) H) (tCons ta (tCons tb tNil))) σ H (.int (max i j)) := fun H1 e Q q =>
  ha H1 e _ fun H2 e2 => hb H2 (e.trans e2) _ fun H3 e3 => ⟨i, j, rfl, by rw [max2]; exact q H3 (e2.trans e3)⟩
theorem ev_min {i j : Int} (ha : Ev ta σ H (.int i)) (hb : Ev tb σ H (.int j)) : Ev (tCB (fun xs H Q => ∃ i j, xs = [.int i, .int j] ∧ Q (.int (if j < i then j else i)) H) (tCons ta (tCons tb tNil))) σ H (.int (min i j)) := fun H1 e Q q =>
  ha H1 e _ fun H2 e2 => hb H2 (e.trans e2) _ fun H3 e3 => ⟨i, j, rfl, by rw [min2]; exact q H3 (e2.trans e3)⟩
end
/-! ### ears -/
def EarL (xs : List Int) : Prop := xs.length = 6 ∧ ∀ x ∈ xs, 0 ≤ x ∧ x ≤ 9
abbrev TpI (K : PySem.W.Frag) (H : Hp) (a : Addr) (xs : List Int) : Prop := SqT K H a (xs.map V.int)
theorem zip_ints (xs ys : List Int) : (xs.map V.int).zip (ys.map V.int) = (xs.zip ys).map fun p => (V.int p.1, V.int p.2) := by
  induction xs generalizing ys with
  | nil => rfl
  | cons x r ih =>
    cases ys with
    | nil => rfl
    | cons y s => simp [ih]
theorem zip_ints_mem {xs ys : List Int} {v w : V} (h : (v, w) ∈ (xs.map V.int).zip (ys.map V.int)) : ∃ x y : Int, v = .int x ∧ w = .int y ∧ (x, y) ∈ xs.zip ys := by
  rw [zip_ints] at h
  obtain ⟨p, hp, e⟩ := List.mem_map.mp h
  cases e
  exact ⟨p.1, p.2, rfl, rfl, hp⟩
/-- a function of ints as one of values -/
def on2 (g : Int → Int → V) : V → V → V
  | .int i, .int j => g i j
  | _, _ => .non
def on2b (c : Int → Int → Bool) : V → V → Bool
  | .int i, .int j => c i j
  | _, _ => false
def on1 (g : Int → V) : V → V
  | .int i => g i
  | _ => .non
theorem pick_ints (c : Int → Int → Bool) (g : Int → Int → V) (xs ys : List Int) : pick (on2b c) (on2 g) ((xs.map V.int).zip (ys.map V.int)) = ((xs.zip ys).filter fun p => c p.1 p.2).map fun p => g p.1 p.2 := by
  rw [zip_ints]
  unfold pick
  rw [List.filter_map, List.map_map]
  rfl
theorem pick_ints1 (g : Int → Int → V) (xs ys : List Int) : pick (fun _ _ => true) (on2 g) ((xs.map V.int).zip (ys.map V.int)) = (xs.zip ys).map fun p => g p.1 p.2 := by
  rw [zip_ints, pick_all, List.map_map]
  rfl
theorem map_on1 (g : Int → V) (xs : List Int) : (xs.map V.int).map (on1 g) = xs.map g := by
  rw [List.map_map]
  rfl
section
variable {K : PySem.W.Frag} {σ : L2.St} {H : Hp} {te tl : TE} {tt : TT} {vs : List Nat}
/-- the same of two tuples of ints -/
theorem ez_ints {a b : Addr} {xs ys : List Int} {ta : TA} {i j : Nat} (g : Int → Int → V) (h : EvA ta σ H [.ref a, .ref b]) (hx : TpI K H a xs) (hy : TpI K H b ys) (hl : xs.length = ys.length) (hz : xs.length ≤ 1000)
    (hw : ∀ x y, wipe (((wipe σ vs).set i (some x)).set j (some y)) vs = wipe σ vs)
    (he : ∀ (x y : Int) H', Ex H H' → (x, y) ∈ xs.zip ys → Ev te (((wipe σ vs).set i (some (.int x))).set j (some (.int y))) H' (g x y)) :
    EvL (tLc (iZipA K ta) (gTwo K i j) tYes te vs) σ H ((xs.zip ys).map fun p => g p.1 p.2) := by
  have r := el_zip (K := K) (tt := tYes) (te := te) (fun _ _ => true) (on2 g) h hx hy (by simpa using hl) (by simpa using hz) hw (fun _ _ _ _ _ => et_yes) (fun v w H' e m _ => by
    obtain ⟨x, y, rfl, rfl, hm⟩ := zip_ints_mem m
    exact he x y H' e hm)
  rw [pick_ints1] at r
  exact r
theorem ez_intsIf {a b : Addr} {xs ys : List Int} {ta : TA} {i j : Nat} (c : Int → Int → Bool) (g : Int → Int → V) (h : EvA ta σ H [.ref a, .ref b]) (hx : TpI K H a xs) (hy : TpI K H b ys) (hl : xs.length = ys.length) (hz : xs.length ≤ 1000)
    (hw : ∀ x y, wipe (((wipe σ vs).set i (some x)).set j (some y)) vs = wipe σ vs)
    (ht : ∀ (x y : Int) H', Ex H H' → EvT tt (((wipe σ vs).set i (some (.int x))).set j (some (.int y))) H' (c x y))
    (he : ∀ (x y : Int) H', Ex H H' → Ev te (((wipe σ vs).set i (some (.int x))).set j (some (.int y))) H' (g x y)) :
    EvL (tLc (iZipA K ta) (gTwo K i j) tt te vs) σ H (((xs.zip ys).filter fun p => c p.1 p.2).map fun p => g p.1 p.2) := by
  have r := el_zip (K := K) (tt := tt) (te := te) (on2b c) (on2 g) h hx hy (by simpa using hl) (by simpa using hz) hw (fun v w H' e m => by
    obtain ⟨x, y, rfl, rfl, hm⟩ := zip_ints_mem m
    exact ht x y H' e) (fun v w H' e m _ => by
    obtain ⟨x, y, rfl, rfl, hm⟩ := zip_ints_mem m
    exact he x y H' e)
  rw [pick_ints] at r
  exact r
theorem em_ints {a : Addr} {xs : List Int} {j : Nat} (g : Int → V) (h : Ev tl σ H (.ref a)) (hx : SqL K H a (xs.map V.int)) (hz : xs.length ≤ 1000) (hw : ∀ x, wipe ((wipe σ vs).set j (some x)) vs = wipe σ vs)
    (he : ∀ x : Int, x ∈ xs → ∀ H1, Ex H H1 → Ev te ((wipe σ vs).set j (some (.int x))) H1 (g x)) : EvL (tLc (iList K tl) (gName j) tYes te vs) σ H (xs.map g) := by
  have r := el_map (K := K) (te := te) (on1 g) h hx (by simpa using hz) hw (fun v hv H1 e1 => by
    obtain ⟨x, hx', rfl⟩ := List.mem_map.mp hv
    exact he x hx' H1 e1)
  rw [map_on1] at r
  exact r
end
/-! ### comprehensions over a tuple; over what stands at an address -/
section
variable {K : PySem.W.Frag} {σ : L2.St} {H : Hp} {te tl : TE} {tt : TT} {vs : List Nat}
theorem take_next {xs : List V} {i : Nat} {x : V} (hx : xs[i]? = some x) : xs.take (i + 1) = xs.take i ++ [x] := by
  rw [List.take_add_one, hx]
  rfl
theorem em_tup {a : Addr} {xs : List V} {j : Nat} (g : V → V) (h : Ev tl σ H (.ref a)) (hx : SqT K H a xs) (hz : xs.length ≤ 1000) (hw : ∀ x, wipe ((wipe σ vs).set j (some x)) vs = wipe σ vs)
    (he : ∀ x ∈ xs, ∀ H1, Ex H H1 → Ev te ((wipe σ vs).set j (some x)) H1 (g x)) : EvL (tLc (iTup K tl) (gName j) tYes te vs) σ H (xs.map g) := fun H0 e Q q => h H0 e _ fun H1 e1 => ⟨a, rfl, ⟨xs, ex_t (e.trans e1) hx⟩, fun D hD => by
  refine lc_it walk_tup (fun n H' => Ex H1 H' ∧ H' D = some (.lst ((xs.take n).map g))) ⟨Ex.new hD, upd_same⟩ (fun n H' _ p => ex_t ((e.trans e1).trans p.1) hx) ?_ ?_
  · rintro n x H' H'' hn ⟨p1, p2⟩ ⟨rfl, gx⟩
    refine ⟨hw x, ?_⟩
    show te ((wipe σ vs).set j (some x)) _ _
    refine he x (List.mem_of_getElem? gx) _ ((e.trans e1).trans p1) _ (Ex.refl _) _ fun H4 e4 => ⟨_, e4 D _ p2, sz_lt ?_, Ex.mut (p1.trans e4) hD, ?_⟩
    · rw [List.length_map]
      have := List.length_take_le n xs
      omega
    · rw [upd_same, take_next gx, List.map_append]
      rfl
  · rintro H' ⟨p1, p2⟩
    rw [List.take_of_length_le (Nat.le_refl _)] at p2
    exact q D H' (fresh_back e1 hD) (e1.trans p1) p2⟩
theorem emT_ints {a : Addr} {xs : List Int} {j : Nat} (g : Int → V) (h : Ev tl σ H (.ref a)) (hx : TpI K H a xs) (hz : xs.length ≤ 1000) (hw : ∀ x, wipe ((wipe σ vs).set j (some x)) vs = wipe σ vs)
    (he : ∀ x : Int, x ∈ xs → ∀ H1, Ex H H1 → Ev te ((wipe σ vs).set j (some (.int x))) H1 (g x)) : EvL (tLc (iTup K tl) (gName j) tYes te vs) σ H (xs.map g) := by
  have r := em_tup (K := K) (te := te) (on1 g) h hx (by simpa using hz) hw (fun v hv H1 e1 => by
    obtain ⟨x, hx', rfl⟩ := List.mem_map.mp hv
    exact he x hx' H1 e1)
  rw [map_on1] at r
  exact r
theorem em_tupN {xs : List V} {j : Nat} (g : V → V) (h : EvU tl σ H xs) (hz : xs.length ≤ 1000) (hw : ∀ x, wipe ((wipe σ vs).set j (some x)) vs = wipe σ vs)
    (he : ∀ x ∈ xs, ∀ H1, Ex H H1 → Ev te ((wipe σ vs).set j (some x)) H1 (g x)) : EvL (tLc (iTup K tl) (gName j) tYes te vs) σ H (xs.map g) := fun H0 e Q q => h H0 e _ fun p H1 hp e1 h1 =>
  em_tup (K := K) (te := te) (tl := tC (.ref p)) g ev_c (st_of h1) hz hw (fun x hx H2 e2 => he x hx H2 ((e.trans e1).trans e2)) H1 (Ex.refl H1) Q fun p2 H2 n2 e2 h2 => q p2 H2 (fresh_back e1 n2) (e1.trans e2) h2
theorem emT_intsN {xs : List Int} {j : Nat} (g : Int → V) (h : EvU tl σ H (xs.map V.int)) (hz : xs.length ≤ 1000) (hw : ∀ x, wipe ((wipe σ vs).set j (some x)) vs = wipe σ vs)
    (he : ∀ x : Int, x ∈ xs → ∀ H1, Ex H H1 → Ev te ((wipe σ vs).set j (some (.int x))) H1 (g x)) : EvL (tLc (iTup K tl) (gName j) tYes te vs) σ H (xs.map g) := by
  have r := em_tupN (K := K) (te := te) (on1 g) h (by simpa using hz) hw (fun v hv H1 e1 => by
    obtain ⟨x, hx', rfl⟩ := List.mem_map.mp hv
    exact he x hx' H1 e1)
  rw [map_on1] at r
  exact r
/-- the list that is walked stands already: what the walk asks -/
theorem at_ints {a : Addr} {xs : List Int} {j : Nat} (g : Int → V) (hx : SqL K H a (xs.map V.int)) (hz : xs.length ≤ 1000) (hw : ∀ x, wipe ((wipe σ vs).set j (some x)) vs = wipe σ vs)
    (he : ∀ x : Int, x ∈ xs → ∀ H1, Ex H H1 → Ev te ((wipe σ vs).set j (some (.int x))) H1 (g x)) {Q : VK} (q : ∀ p H2, H p = none → Ex H H2 → H2 p = some (.lst (xs.map g)) → Q (.ref p) H2) :
    tLc (iList K (tC (.ref a))) (gName j) tYes te vs σ H Q := em_ints (K := K) (te := te) g ev_c hx hz hw he H (Ex.refl H) Q q
/-- evaluates to some value of which P is known -/
def EvS (te : TE) (σ : L2.St) (H : Hp) (P : V → Hp → Prop) : Prop := ∀ H1, Ex H H1 → ∀ Q : VK, (∀ v H2, Ex H1 H2 → P v H2 → Q v H2) → te σ H1 Q
def SomeL (P : List Int → Prop) (v : V) (H : Hp) : Prop := ∃ (p : Addr) (xs : List Int), v = .ref p ∧ H p = some (.lst (xs.map V.int)) ∧ P xs
/-- y = [e for x in call(..)], the call hands back some list of ints -/
theorem q_lcN {i j : Nat} {D : Ends} {tz : TS} (P : List Int → Prop) (g : Int → V) (h : EvS tl σ H (SomeL P)) (hz : ∀ xs, P xs → xs.length ≤ 1000) (hw : ∀ x, wipe ((wipe σ vs).set j (some x)) vs = wipe σ vs)
    (he : ∀ (x : Int) H1, Ex H H1 → Ev te ((wipe σ vs).set j (some (.int x))) H1 (g x)) (k : ∀ p H1 xs, P xs → H p = none → Ex H H1 → H1 p = some (.lst (xs.map g)) → tz D (σ.set i (some (.ref p))) H1) :
    tSeq (tAsg (tLc (iList K tl) (gName j) tYes te vs) (gName i)) tz D σ H := by
  refine h H (Ex.refl H) _ fun v H1 e1 hv => ?_
  obtain ⟨p, xs, rfl, hp, hP⟩ := hv
  exact em_ints (K := K) (te := te) (tl := tC (.ref p)) g ev_c (sq_of hp) (hz xs hP) hw (fun x _ H2 e2 => he x H2 (e1.trans e2)) H1 (Ex.refl H1) (fun v H' => tz D (σ.set i (some v)) H') fun p2 H2 n2 e2 h2 => k p2 H2 xs hP (fresh_back e1 n2) (e1.trans e2) h2
theorem ev_chain {ta tb tc : TE} {i j k : Int} (ha : Ev ta σ H (.int i)) (hb : Ev tb σ H (.int j)) (hc : Ev tc σ H (.int k)) :
    Ev (tChain (rI0 fun i j => .bl (decide (i ≤ j))) (rI0 fun i j => .bl (decide (i ≤ j))) ta tb tc) σ H (.bl (decide (i ≤ j) && decide (j ≤ k))) := fun H1 e Q q =>
  ha H1 e _ fun H2 e2 => hb H2 (e.trans e2) _ fun H3 e3 => ⟨i, j, rfl, rfl, _, rfl, by
    cases hd : decide (i ≤ j) with
    | true =>
      refine iteT ?_
      refine hc H3 ((e.trans e2).trans e3) _ fun H4 e4 => ⟨j, k, rfl, rfl, ?_⟩
      have r := q H4 ((e2.trans e3).trans e4)
      rw [hd, Bool.true_and] at r
      exact r
    | false =>
      refine iteF ?_
      have r := q H3 (e2.trans e3)
      rw [hd, Bool.false_and] at r
      exact r⟩
end
/-! ### values of which something is known -/
section
variable {K : PySem.W.Frag} {σ : L2.St} {H H' : Hp} {te ta tb : TE} {t : TT} {P R : V → Hp → Prop} {v : V}
theorem EvS.mono (e : Ex H H') (h : EvS te σ H P) : EvS te σ H' P := fun H1 a Q q => h H1 (e.trans a) Q q
theorem es_ev (h : Ev te σ H v) (hp : ∀ H', Ex H H' → P v H') : EvS te σ H P := fun H1 e Q q => h H1 e Q fun H2 e2 => q v H2 e2 (hp H2 (e.trans e2))
theorem EvS.imp (h : EvS te σ H P) (k : ∀ v H', P v H' → R v H') : EvS te σ H R := fun H1 e Q q => h H1 e Q fun v H2 e2 p => q v H2 e2 (k v H2 p)
def SomeT (n : Nat) (v : V) (_ : Hp) : Prop := ∃ z : Str, v = .str z ∧ z.length ≤ n
theorem q_asgS {i : Nat} {D : Ends} {tz : TS} (h : EvS te σ H P) (k : ∀ v H1, Ex H H1 → P v H1 → tz D (σ.set i (some v)) H1) : tSeq (tAsg te (gName i)) tz D σ H := h H (Ex.refl H) _ fun v H1 e p => k v H1 e p
/-- if t: x = e, of which the same is known whether or not -/
theorem q_maybe {i : Nat} {D : Ends} {tz : TS} {b : Bool} {v0 : V} (P : V → Hp → Prop) (h : EvT t σ H b) (he : b = true → EvS te σ H P) (h0 : ∀ H', Ex H H' → P v0 H') (hs : σ.set i (some v0) = σ) (k : ∀ v H1, Ex H H1 → P v H1 → tz D (σ.set i (some v)) H1) :
    tSeq (tIfS t (tAsg te (gName i)) tNext) tz D σ H := by
  refine q_when h (fun hb H1 e1 => ?_) (fun hb H1 e1 => ?_)
  · exact he hb H1 e1 _ fun v H2 e2 p => k v H2 (e1.trans e2) p
  · have g := k v0 H1 e1 (h0 H1 e1)
    rw [hs] at g
    exact g
theorem es_add {m n : Nat} (h1 : EvS ta σ H (SomeT m)) (h2 : EvS tb σ H (SomeT n)) (hz : m + n ≤ 5000) :
    EvS (tOp (fun x y H Q => ∃ i j, x = .str i ∧ y = .str j ∧ i.length + j.length ≤ sizeLine ∧ Q (.str (i ++ j)) H) ta tb) σ H (SomeT (m + n)) := fun H1 e Q q =>
  h1 H1 e _ fun v H2 e2 p => h2 H2 (e.trans e2) _ fun w H3 e3 r => by
    obtain ⟨x, rfl, hx⟩ := p
    obtain ⟨y, rfl, hy⟩ := r
    refine ⟨x, y, rfl, rfl, sz_of (by omega), q _ H3 (e2.trans e3) ⟨_, rfl, ?_⟩⟩
    rw [TL.len_tl, TL.tl_append, List.length_append, ← TL.len_tl, ← TL.len_tl]
    omega
theorem es_cut {n : Nat} {tl th : TO} {lo hi : Option Int} (h : EvS te σ H (SomeT n)) (h1 : EvO tl σ H lo) (h2 : EvO th σ H hi) (hz : n ≤ 5000) : EvS (tSl rSlS te tl th) σ H (SomeT n) := fun H1 e Q q =>
  h H1 e _ fun v H2 e2 p => h1 H2 (e.trans e2) _ fun H3 e3 => h2 H3 ((e.trans e2).trans e3) _ fun H4 e4 => by
    obtain ⟨x, rfl, hx⟩ := p
    refine ⟨x, rfl, sz_of (by omega), q _ H4 ((e2.trans e3).trans e4) ⟨_, rfl, ?_⟩⟩
    have := cutS_length x lo hi
    omega
/-- [e for x, y in zip(a new tuple, b)] -/
theorem el_zipN {b : Addr} {xs ys : List V} {vs : List Nat} {tt : TT} {i j : Nat} (c : V → V → Bool) (g : V → V → V) (h1 : EvU ta σ H xs) (h2 : Ev tb σ H (.ref b)) (hy : SqT K H b ys) (hl : xs.length = ys.length) (hz : xs.length ≤ 1000)
    (hw : ∀ x y, wipe (((wipe σ vs).set i (some x)).set j (some y)) vs = wipe σ vs)
    (ht : ∀ x y H', Ex H H' → (x, y) ∈ xs.zip ys → EvT tt (((wipe σ vs).set i (some x)).set j (some y)) H' (c x y))
    (he : ∀ x y H', Ex H H' → (x, y) ∈ xs.zip ys → c x y = true → Ev te (((wipe σ vs).set i (some x)).set j (some y)) H' (g x y)) :
    EvL (tLc (iZipA K (tCons ta (tCons tb tNil))) (gTwo K i j) tt te vs) σ H (pick c g (xs.zip ys)) := fun H0 e Q q => h1 H0 e _ fun a H1 na e1 ha => h2 H1 (e.trans e1) _ fun H2 e2 =>
  ⟨a, b, xs, ys, rfl, Or.inr ⟨st_of (e2 _ _ ha), ex_t ((e.trans e1).trans e2) hy, fun D hD => lc_pairs (walkTT hl) hl hz c g hD (fun H' e3 => ⟨st_of (e3 _ _ (e2 _ _ ha)), ex_t (((e.trans e1).trans e2).trans e3) hy⟩) hw
    (fun x y H' e3 m => ht x y H' (((e.trans e1).trans e2).trans e3) m) (fun x y H' e3 m hc => he x y H' (((e.trans e1).trans e2).trans e3) m hc) fun H' e3 h3 => q D H' (fresh_back (e1.trans e2) hD) ((e1.trans e2).trans e3) h3⟩⟩
end
theorem tyx_tup {K : PySem.W.Frag} {H : Hp} {a : Addr} {xs : List V} (h : SqT K H a xs) : TyX K H (.ref a) (.type "tuple") := by
  rcases h with (h | ⟨o, h⟩) | ⟨o, its, n, h, c, _⟩
  · exact .base (.tup h)
  · exact .fTuple h
  · exact .kTuple h c
theorem tyx_lst {K : PySem.W.Frag} {H : Hp} {a : Addr} {xs : List V} (h : H a = some (.lst xs)) : TyX K H (.ref a) (.type "list") := .base (.lst h)
theorem get_int {xs : List Int} {i : Nat} {v : V} (h : (xs.map V.int)[i]? = some v) : ∃ x, v = .int x ∧ xs[i]? = some x ∧ x ∈ xs := by
  rw [List.getElem?_map] at h
  cases e : xs[i]? with
  | none =>
    rw [e] at h
    cases h
  | some x =>
    rw [e] at h
    cases h
    exact ⟨x, rfl, rfl, List.mem_of_getElem? e⟩
def lowB (xs ys : List Int) : Bool := (xs.zip ys).all fun p => decide (p.1 ≤ p.2)
theorem lowB_iff {xs ys : List Int} : lowB xs ys = true ↔ ∀ p ∈ xs.zip ys, p.1 ≤ p.2 := by
  unfold lowB
  simp only [List.all_eq_true, decide_eq_true_eq]
theorem zipI_mem {xs ys : List Int} {i : Nat} {x y : Int} (hx : xs[i]? = some x) (hy : ys[i]? = some y) : (x, y) ∈ xs.zip ys := by
  have h : (xs.zip ys)[i]? = some (x, y) := by
    rw [List.getElem?_zip_eq_some]
    exact ⟨hx, hy⟩
  exact List.mem_of_getElem? h
theorem zipI_next {xs ys : List Int} {i : Nat} {x y : Int} (hx : xs[i]? = some x) (hy : ys[i]? = some y) : (xs.zip ys).take (i + 1) = (xs.zip ys).take i ++ [(x, y)] := by
  have h : (xs.zip ys)[i]? = some (x, y) := by
    rw [List.getElem?_zip_eq_some]
    exact ⟨hx, hy⟩
  rw [List.take_add_one, h]
  rfl
def maxL (xs ys : List Int) : List Int := (xs.zip ys).map fun p => max p.1 p.2
def minL (xs ys : List Int) : List Int := (xs.zip ys).map fun p => min p.1 p.2
def lackI (xs ys : List Int) : Int := (((xs.zip ys).filter fun p => decide (p.1 < p.2)).map fun p => p.2 - p.1).sum
def tearI (xs ys : List Int) : Int := ((xs.zip ys).map fun p => max 0 (p.2 - p.1)).sum
theorem maxL_len {xs ys : List Int} (h : xs.length = ys.length) : (maxL xs ys).length = xs.length := by
  unfold maxL
  rw [List.length_map, List.length_zip]
  omega
theorem minL_len {xs ys : List Int} (h : xs.length = ys.length) : (minL xs ys).length = xs.length := by
  unfold minL
  rw [List.length_map, List.length_zip]
  omega
theorem maxL_cons (x y : Int) (xs ys : List Int) : maxL (x :: xs) (y :: ys) = max x y :: maxL xs ys := rfl
theorem minL_cons (x y : Int) (xs ys : List Int) : minL (x :: xs) (y :: ys) = min x y :: minL xs ys := rfl
theorem lowB_cons (x y : Int) (xs ys : List Int) : lowB (x :: xs) (y :: ys) = (decide (x ≤ y) && lowB xs ys) := rfl
theorem tearI_cons (x y : Int) (xs ys : List Int) : tearI (x :: xs) (y :: ys) = max 0 (y - x) + tearI xs ys := by
  unfold tearI
  rw [List.zip_cons_cons, List.map_cons, List.sum_cons]
theorem tearI_nil (ys : List Int) : tearI [] ys = 0 := rfl
theorem tearI_nil2 (xs : List Int) : tearI xs [] = 0 := by
  unfold tearI
  rw [List.zip_nil_right]
  rfl
theorem lackI_eq : ∀ xs ys : List Int, lackI xs ys = tearI xs ys
  | [], ys => rfl
  | x :: xs, [] => rfl
  | x :: xs, y :: ys => by
    have ih := lackI_eq xs ys
    rw [tearI_cons, ← ih]
    unfold lackI
    rw [List.zip_cons_cons, List.filter_cons]
    by_cases h : x < y
    · rw [if_pos (decide_eq_true h), List.map_cons, List.sum_cons]
      show (y - x) + _ = _
      omega
    · rw [if_neg (by rw [decide_eq_false h]; decide)]
      omega
theorem tearI_nonneg : ∀ xs ys : List Int, 0 ≤ tearI xs ys
  | [], ys => by rw [tearI_nil]; decide
  | x :: xs, [] => by rw [tearI_nil2]; decide
  | x :: xs, y :: ys => by
    have ih := tearI_nonneg xs ys
    rw [tearI_cons]
    omega
theorem low_max : ∀ xs ys zs : List Int, xs.length = ys.length → lowB (maxL xs ys) zs = (lowB xs zs && lowB ys zs)
  | [], ys, zs, h => by
    cases ys with
    | nil => rfl
    | cons y ys => cases h
  | x :: xs, [], zs, h => by cases h
  | x :: xs, y :: ys, [], _ => rfl
  | x :: xs, y :: ys, z :: zs, h => by
    have ih := low_max xs ys zs (Nat.succ.inj h)
    have h1 : decide (max x y ≤ z) = (decide (x ≤ z) && decide (y ≤ z)) := by
      rw [Bool.eq_iff_iff, Bool.and_eq_true, decide_eq_true_eq, decide_eq_true_eq, decide_eq_true_eq]
      omega
    rw [maxL_cons, lowB_cons, lowB_cons, lowB_cons, ih, h1]
    cases decide (x ≤ z) <;> cases decide (y ≤ z) <;> cases lowB xs zs <;> cases lowB ys zs <;> rfl
theorem low_min : ∀ xs ys zs : List Int, xs.length = ys.length → lowB zs (minL xs ys) = (lowB zs xs && lowB zs ys)
  | [], ys, zs, h => by
    cases ys with
    | nil => cases zs <;> rfl
    | cons y ys => cases h
  | x :: xs, [], zs, h => by cases h
  | x :: xs, y :: ys, [], _ => rfl
  | x :: xs, y :: ys, z :: zs, h => by
    have ih := low_min xs ys zs (Nat.succ.inj h)
    have h1 : decide (z ≤ min x y) = (decide (z ≤ x) && decide (z ≤ y)) := by
      rw [Bool.eq_iff_iff, Bool.and_eq_true, decide_eq_true_eq, decide_eq_true_eq, decide_eq_true_eq]
      omega
    rw [minL_cons, lowB_cons, lowB_cons, lowB_cons, ih, h1]
    cases decide (z ≤ x) <;> cases decide (z ≤ y) <;> cases lowB zs xs <;> cases lowB zs ys <;> rfl
theorem tear_max : ∀ xs ys : List Int, tearI xs (maxL xs ys) = tearI xs ys
  | [], ys => rfl
  | x :: xs, [] => rfl
  | x :: xs, y :: ys => by
    have ih := tear_max xs ys
    rw [maxL_cons, tearI_cons, tearI_cons, ih]
    omega
theorem tear_min : ∀ xs ys : List Int, tearI (minL xs ys) ys = tearI xs ys
  | [], ys => rfl
  | x :: xs, [] => by rw [tearI_nil2, tearI_nil2]
  | x :: xs, y :: ys => by
    have ih := tear_min xs ys
    rw [minL_cons, tearI_cons, tearI_cons, ih]
    omega
theorem tear_zero : ∀ xs ys : List Int, decide (tearI xs ys = 0) = lowB ys xs
  | [], ys => by cases ys <;> rfl
  | x :: xs, [] => by rw [tearI_nil2]; rfl
  | x :: xs, y :: ys => by
    have ih := tear_zero xs ys
    have h0 := tearI_nonneg xs ys
    rw [tearI_cons, lowB_cons, ← ih]
    rw [Bool.eq_iff_iff]
    simp only [Bool.and_eq_true, decide_eq_true_eq]
    omega
theorem tear_tri : ∀ xs ys zs : List Int, xs.length = ys.length → ys.length = zs.length → tearI xs zs ≤ tearI xs ys + tearI ys zs
  | [], ys, zs, _, _ => by
    have h1 := tearI_nonneg ys zs
    rw [tearI_nil, tearI_nil]
    omega
  | x :: xs, [], zs, h, _ => by cases h
  | x :: xs, y :: ys, [], _, h => by cases h
  | x :: xs, y :: ys, z :: zs, h1, h2 => by
    have ih := tear_tri xs ys zs (Nat.succ.inj h1) (Nat.succ.inj h2)
    rw [tearI_cons, tearI_cons, tearI_cons]
    omega
theorem tear_sum : ∀ xs ys zs : List Int, xs.length = ys.length → ys.length = zs.length → lowB xs ys = true → lowB ys zs = true → tearI xs zs = tearI xs ys + tearI ys zs
  | [], ys, zs, h1, h2, _, _ => by
    cases ys with
    | nil => rfl
    | cons y ys => cases h1
  | x :: xs, [], zs, h, _, _, _ => by cases h
  | x :: xs, y :: ys, [], _, h, _, _ => by cases h
  | x :: xs, y :: ys, z :: zs, h1, h2, l1, l2 => by
    rw [lowB_cons, Bool.and_eq_true, decide_eq_true_eq] at l1 l2
    have ih := tear_sum xs ys zs (Nat.succ.inj h1) (Nat.succ.inj h2) l1.2 l2.2
    rw [tearI_cons, tearI_cons, tearI_cons, ih]
    omega
theorem ear_zip {xs ys : List Int} {f : Int → Int → Int} (h1 : EarL xs) (h2 : EarL ys) (hf : ∀ x y : Int, 0 ≤ x ∧ x ≤ 9 → 0 ≤ y ∧ y ≤ 9 → 0 ≤ f x y ∧ f x y ≤ 9) : EarL ((xs.zip ys).map fun p => f p.1 p.2) := by
  refine ⟨by rw [List.length_map, List.length_zip, h1.1, h2.1]; rfl, fun z hz => ?_⟩
  obtain ⟨p, hp, rfl⟩ := List.mem_map.mp hz
  have m := List.of_mem_zip hp
  exact hf _ _ (h1.2 _ m.1) (h2.2 _ m.2)
theorem ear_max {xs ys : List Int} (h1 : EarL xs) (h2 : EarL ys) : EarL (maxL xs ys) := ear_zip h1 h2 (fun x y _ _ => by omega)
theorem ear_min {xs ys : List Int} (h1 : EarL xs) (h2 : EarL ys) : EarL (minL xs ys) := ear_zip h1 h2 (fun x y _ _ => by omega)
/-! ### numbers of ears -/
def wT : List Int := [100000, 10000, 1000, 100, 10, 1]
def numI (xs : List Int) : Int := ((xs.zip wT).map fun p => p.1 * p.2).sum
def digs (n : Int) : List Int := wT.map fun w => n / w % 10
def lessI : List Int → List Int → Bool
  | x :: xs, y :: ys => if x = y then lessI xs ys else decide (x < y)
  | _, _ => false
theorem six {xs : List Int} (h : EarL xs) : ∃ a b c d e f : Int, xs = [a, b, c, d, e, f] ∧ (0 ≤ a ∧ a ≤ 9) ∧ (0 ≤ b ∧ b ≤ 9) ∧ (0 ≤ c ∧ c ≤ 9) ∧ (0 ≤ d ∧ d ≤ 9) ∧ (0 ≤ e ∧ e ≤ 9) ∧ 0 ≤ f ∧ f ≤ 9 := by
  obtain ⟨hl, hb⟩ := h
  match xs, hl with
  | [a, b, c, d, e, f], _ => exact ⟨a, b, c, d, e, f, rfl, hb a (by simp), hb b (by simp), hb c (by simp), hb d (by simp), hb e (by simp), hb f (by simp)⟩
theorem numI_six (a b c d e f : Int) : numI [a, b, c, d, e, f] = a * 100000 + b * 10000 + c * 1000 + d * 100 + e * 10 + f := by
  show (a * 100000 + (b * 10000 + (c * 1000 + (d * 100 + (e * 10 + (f * 1 + 0)))))) = _
  omega
theorem numI_in {xs : List Int} (h : EarL xs) : 0 ≤ numI xs ∧ numI xs ≤ 999999 := by
  obtain ⟨a, b, c, d, e, f, rfl, _⟩ := six h
  rw [numI_six]
  omega
theorem digs_num {xs : List Int} (h : EarL xs) : digs (numI xs) = xs := by
  obtain ⟨a, b, c, d, e, f, rfl, ha, hb, hc, hd, he, hf⟩ := six h
  rw [numI_six]
  unfold digs wT
  simp only [List.map_cons, List.map_nil, List.cons.injEq, and_true]
  refine ⟨?_, ?_, ?_, ?_, ?_, ?_⟩ <;> omega
theorem less_num {xs ys : List Int} (h : EarL xs) (k : EarL ys) : decide (numI xs < numI ys) = lessI xs ys := by
  obtain ⟨a, b, c, d, e, f, rfl, ha, hb, hc, hd, he, hf⟩ := six h
  obtain ⟨a', b', c', d', e', f', rfl, ha', hb', hc', hd', he', hf'⟩ := six k
  rw [numI_six, numI_six]
  simp only [lessI]
  repeat' split
  all_goals (first | (rw [decide_eq_false]; omega) | (rw [decide_eq_decide]; omega))
theorem wT_in {x : Int} (m : x ∈ wT) : 0 < x ∧ x < 1073741824 := by
  have m' : x = 100000 ∨ x = 10000 ∨ x = 1000 ∨ x = 100 ∨ x = 10 ∨ x = 1 := by simpa [wT] using m
  omega
theorem four_at (y : Int) : ∃ v : Int, atI ([0, 0 - 1, 999999, 1000000].map V.int) (y % 4) = some (.int v) := by
  have h : (y % 4).toNat < ([0, 0 - 1, 999999, 1000000] : List Int).length := by
    show (y % 4).toNat < 4
    omega
  exact ⟨[0, 0 - 1, 999999, 1000000][(y % 4).toNat], at_of (j := (y % 4).toNat) (by omega) (by rw [List.getElem?_map, List.getElem?_eq_getElem h]; rfl)⟩
end Ear

namespace Ear
open PySem PySem.Spec PyProof.Rows L2 Evl RZ
/-! ### texts of ears: the mathematics, over lists of codes -/
open TL in
def mkS (l : List Nat) : Str := ⟨l.toArray⟩
def plC : List (List Nat) := [[108, 116], [108, 102], [108, 104], [114, 116], [114, 102], [114, 104]]
def noneC : List Nat := [110, 111, 110, 101]
def zer : List Int := [0, 0, 0, 0, 0, 0]
/-- the place of two letters -/
def plIx (w : List Nat) : Option Nat := plC.findIdx? fun p => decide (p = w)
/-- the cut that a word writes -/
def cutOf : List Nat → Option (Nat × Int)
  | [a, b, c] => if 49 ≤ c ∧ c ≤ 57 then (plIx [a, b]).map fun k => (k, (c : Int) - 48) else none
  | _ => none
def readW : List (List Nat) → List Int → Int → Option (List Int)
  | [], dep, _ => some dep
  | w :: ws, dep, last => match cutOf w with
    | none => none
    | some (k, d) => if (k : Int) ≤ last then none else readW ws (dep.set k d) (k : Int)
def readI (t : List Nat) : Option (List Int) := if t = noneC then some zer else readW (TL.spl [32] 0 [] t) zer (-1)
theorem plIx_some {w : List Nat} {k : Nat} (h : plIx w = some k) : plC[k]? = some w ∧ k < 6 := by
  unfold plIx at h
  have h1 := List.findIdx?_eq_some_iff_getElem.mp h
  obtain ⟨hk, he, _⟩ := h1
  have e := of_decide_eq_true he
  exact ⟨by rw [List.getElem?_eq_getElem hk, e], hk⟩
theorem plIx_at : ∀ {k : Nat} {w : List Nat}, plC[k]? = some w → plIx w = some k
  | 0, w, h => by cases h; rfl
  | 1, w, h => by cases h; rfl
  | 2, w, h => by cases h; rfl
  | 3, w, h => by cases h; rfl
  | 4, w, h => by cases h; rfl
  | 5, w, h => by cases h; rfl
  | k + 6, w, h => by simp [plC] at h
theorem pl_two {k : Nat} {w : List Nat} (h : plC[k]? = some w) : ∃ a b : Nat, w = [a, b] ∧ a ≠ 32 ∧ b ≠ 32 ∧ a ≠ 110 := by
  match k, h with
  | 0, h => cases h; exact ⟨_, _, rfl, by decide, by decide, by decide⟩
  | 1, h => cases h; exact ⟨_, _, rfl, by decide, by decide, by decide⟩
  | 2, h => cases h; exact ⟨_, _, rfl, by decide, by decide, by decide⟩
  | 3, h => cases h; exact ⟨_, _, rfl, by decide, by decide, by decide⟩
  | 4, h => cases h; exact ⟨_, _, rfl, by decide, by decide, by decide⟩
  | 5, h => cases h; exact ⟨_, _, rfl, by decide, by decide, by decide⟩
  | k + 6, h => simp [plC] at h
theorem cut_at {k : Nat} {w : List Nat} {d : Int} (h : plC[k]? = some w) (hd : 0 < d ∧ d ≤ 9) : cutOf (w ++ [48 + d.toNat]) = some (k, d) := by
  obtain ⟨a, b, rfl, _⟩ := pl_two h
  show (if 49 ≤ 48 + d.toNat ∧ 48 + d.toNat ≤ 57 then (plIx [a, b]).map fun k => (k, ((48 + d.toNat : Nat) : Int) - 48) else none) = _
  rw [if_pos (by omega), plIx_at h]
  show some (k, ((48 + d.toNat : Nat) : Int) - 48) = some (k, d)
  congr 2
  omega
theorem cut_some {w : List Nat} {k : Nat} {d : Int} (h : cutOf w = some (k, d)) : ∃ a b c : Nat, w = [a, b, c] ∧ (49 ≤ c ∧ c ≤ 57) ∧ plIx [a, b] = some k ∧ d = (c : Int) - 48 ∧ k < 6 := by
  match w, h with
  | [a, b, c], h =>
    have h : (if 49 ≤ c ∧ c ≤ 57 then (plIx [a, b]).map fun k => (k, (c : Int) - 48) else none) = some (k, d) := h
    by_cases hc : 49 ≤ c ∧ c ≤ 57
    · rw [if_pos hc] at h
      cases hp : plIx [a, b] with
      | none =>
        rw [hp] at h
        cases h
      | some j =>
        rw [hp] at h
        cases h
        exact ⟨a, b, c, rfl, hc, hp, rfl, (plIx_some hp).2⟩
    · rw [if_neg hc] at h
      cases h
/-- the words of an ear from a place on -/
def wZ (ps : List (List Nat)) (xs : List Int) : List (List Nat) := ((ps.zip xs).filter fun p => decide (0 < p.2)).map fun p => p.1 ++ [48 + p.2.toNat]
theorem wZ_cons (p : List Nat) (ps : List (List Nat)) (d : Int) (ds : List Int) : wZ (p :: ps) (d :: ds) = (if 0 < d then [p ++ [48 + d.toNat]] else []) ++ wZ ps ds := by
  unfold wZ
  rw [List.zip_cons_cons, List.filter_cons]
  by_cases h : 0 < d
  · rw [if_pos (decide_eq_true h), if_pos h, List.map_cons]
    rfl
  · rw [if_neg (by rw [decide_eq_false h]; decide), if_neg h]
    rfl
def ovr : Nat → List Int → List Int → List Int
  | _, [], dep => dep
  | k, d :: ds, dep => ovr (k + 1) ds (if 0 < d then dep.set k d else dep)
theorem read_wZ : ∀ (ds : List Int) (k : Nat) (dep : List Int) (last : Int), k + ds.length ≤ 6 → (∀ d ∈ ds, 0 ≤ d ∧ d ≤ 9) → last < k → readW (wZ (plC.drop k) ds) dep last = some (ovr k ds dep)
  | [], k, dep, last, _, _, _ => by
    unfold wZ
    rw [List.zip_nil_right]
    rfl
  | d :: ds, k, dep, last, hk, hb, hl => by
    rw [List.length_cons] at hk
    have h6 : k < plC.length := by
      show k < 6
      omega
    have bd := hb d (by simp)
    have hb' : ∀ x ∈ ds, 0 ≤ x ∧ x ≤ 9 := fun x hx => hb x (List.mem_cons_of_mem _ hx)
    rw [List.drop_eq_getElem_cons h6, wZ_cons]
    show _ = some (ovr (k + 1) ds (if 0 < d then dep.set k d else dep))
    by_cases h : 0 < d
    · rw [if_pos h, if_pos h]
      show readW ((plC[k] ++ [48 + d.toNat]) :: wZ (plC.drop (k + 1)) ds) dep last = _
      unfold readW
      rw [cut_at (List.getElem?_eq_getElem h6) ⟨h, bd.2⟩]
      show (if (k : Int) ≤ last then none else readW (wZ (plC.drop (k + 1)) ds) (dep.set k d) (k : Int)) = _
      rw [if_neg (by omega)]
      exact read_wZ ds (k + 1) _ _ (by omega) hb' (by omega)
    · rw [if_neg h, if_neg h, List.nil_append]
      exact read_wZ ds (k + 1) _ _ (by omega) hb' (by omega)
theorem set_zero {d : Int} {dep : List Int} {k : Nat} (hd : 0 ≤ d) (h : dep[k]? = some 0) : (if 0 < d then dep.set k d else dep) = dep.set k d := by
  by_cases c : 0 < d
  · rw [if_pos c]
  · have e : d = 0 := by omega
    rw [if_neg c, e]
    apply List.ext_getElem?
    intro i
    rw [List.getElem?_set]
    by_cases hi : k = i
    · subst hi
      have hk := (List.getElem?_eq_some_iff.mp h).1
      rw [if_pos rfl, if_pos hk, h]
    · rw [if_neg hi]
theorem ovr_all {xs : List Int} (h : EarL xs) : ovr 0 xs zer = xs := by
  obtain ⟨a, b, c, d, e, f, rfl, ha, hb, hc, hd, he, hf⟩ := six h
  unfold ovr ovr ovr ovr ovr ovr ovr zer
  rw [set_zero ha.1 rfl, set_zero hb.1 rfl, set_zero hc.1 rfl, set_zero hd.1 rfl, set_zero he.1 rfl, set_zero hf.1 rfl]
  rfl
def showL (xs : List Int) : List Nat := if wZ plC xs = [] then noneC else TL.joinL [32] (wZ plC xs)
theorem wZ_free {ps : List (List Nat)} {xs : List Int} (hp : ∀ p ∈ ps, ∃ k : Nat, plC[k]? = some p) (hb : ∀ d ∈ xs, 0 ≤ d ∧ d ≤ 9) : ∀ w ∈ wZ ps xs, 32 ∉ w ∧ ∃ c r, w = c :: r ∧ c ≠ 110 := by
  intro w hw
  obtain ⟨q, hq, rfl⟩ := List.mem_map.mp hw
  obtain ⟨h1, h2⟩ := List.mem_filter.mp hq
  obtain ⟨m1, m2⟩ := List.of_mem_zip h1
  obtain ⟨k, hk⟩ := hp _ m1
  obtain ⟨a, b, e, n1, n2, n3⟩ := pl_two hk
  rw [e]
  have := hb _ m2
  have h3 := of_decide_eq_true h2
  refine ⟨?_, a, _, rfl, n3⟩
  simp only [List.cons_append, List.nil_append, List.mem_cons, List.not_mem_nil, or_false, not_or]
  exact ⟨Ne.symm n1, Ne.symm n2, by omega⟩
theorem pl_all : ∀ p ∈ plC, ∃ k : Nat, plC[k]? = some p := fun p hp => by
  obtain ⟨i, hi, e⟩ := List.getElem_of_mem hp
  exact ⟨i, by rw [List.getElem?_eq_getElem hi, e]⟩
theorem join_head {w : List Nat} {ws : List (List Nat)} {c : Nat} {r : List Nat} (h : w = c :: r) : ∃ r', TL.joinL [32] (w :: ws) = c :: r' := by
  subst h
  cases ws with
  | nil => exact ⟨r, rfl⟩
  | cons v vs => exact ⟨_, rfl⟩
theorem all_zero {xs : List Int} (h : EarL xs) (e : wZ plC xs = []) : xs = zer := by
  have r := read_wZ xs 0 zer (-1) (by rw [h.1]; decide) h.2 (by decide)
  rw [List.drop_zero, e, ovr_all h] at r
  exact (Option.some.inj r).symm
theorem read_show {xs : List Int} (h : EarL xs) : readI (showL xs) = some xs := by
  unfold showL
  by_cases e : wZ plC xs = []
  · rw [if_pos e]
    unfold readI
    rw [if_pos rfl, all_zero h e]
  · rw [if_neg e]
    have fr := wZ_free pl_all h.2
    have hn : TL.joinL [32] (wZ plC xs) ≠ noneC := by
      cases hw : wZ plC xs with
      | nil => exact absurd hw e
      | cons w ws =>
        obtain ⟨_, c, r, ew, nc⟩ := fr w (by rw [hw]; simp)
        obtain ⟨r', e'⟩ := join_head (ws := ws) ew
        rw [e']
        intro z
        cases z
        exact nc rfl
    unfold readI
    rw [if_neg hn, TL.spl_join e (fun w hw => (fr w hw).1)]
    have r := read_wZ xs 0 zer (-1) (by rw [h.1]; decide) h.2 (by decide)
    rw [List.drop_zero, ovr_all h] at r
    exact r
/-! ### the other reading: place by place -/
def fits (p rest : List Nat) : Option Int := if rest.take 2 = p then (match rest.drop 2 with | c :: e :: _ => if (49 ≤ c ∧ c ≤ 57) ∧ e = 32 then some ((c : Int) - 48) else none | _ => none) else none
def eatL : List (List Nat) → List Nat → List Int × List Nat
  | [], rest => ([], rest)
  | p :: ps, rest => match fits p rest with
    | some d => let r := eatL ps (rest.drop 4); (d :: r.1, r.2)
    | none => let r := eatL ps rest; (0 :: r.1, r.2)
def meantI (t : List Nat) : Option (List Int) := if t = noneC then some zer else
  let r := eatL plC (t ++ [32])
  if r.2 ≠ [] ∨ r.1.sum = 0 then none else some r.1
/-- the words, each with its blank -/
def flatW (ws : List (List Nat)) : List Nat := ws.flatMap fun w => w ++ [32]
theorem flatW_cons (w : List Nat) (ws : List (List Nat)) : flatW (w :: ws) = w ++ 32 :: flatW ws := by
  unfold flatW
  rw [List.flatMap_cons, List.append_assoc]
  rfl
theorem spl_flat : ∀ (t acc : List Nat), 32 ∉ acc → flatW (TL.spl [32] 0 acc t) = acc ++ t ++ [32] ∧ (∀ w ∈ TL.spl [32] 0 acc t, 32 ∉ w) ∧ TL.spl [32] 0 acc t ≠ []
  | [], acc, h => by
    refine ⟨?_, ?_, ?_⟩
    · show flatW [acc] = acc ++ [] ++ [32]
      rw [flatW_cons, List.append_nil]
      rfl
    · intro w hw
      have e : w = acc := List.mem_singleton.mp hw
      rw [e]
      exact h
    · show [acc] ≠ []
      simp
  | c :: r, acc, h => by
    by_cases hc : c = 32
    · subst hc
      have e : TL.spl [32] 0 acc (32 :: r) = acc :: TL.spl [32] 0 [] r := by
        have z := TL.spl_part1 (s := 32) (S := []) (p := []) (rest := r) (acc := acc) (by simp)
        rw [List.append_nil] at z
        exact z
      have ih := spl_flat r [] (by simp)
      rw [e]
      refine ⟨?_, ?_, by simp⟩
      · rw [flatW_cons, ih.1]
        simp
      · intro w hw
        rcases List.mem_cons.mp hw with q | q
        · rw [q]
          exact h
        · exact ih.2.1 w q
    · have e : TL.spl [32] 0 acc (c :: r) = TL.spl [32] 0 (acc ++ [c]) r := by
        have hp : TL.pre [32] (c :: r) = false := by
          cases q : TL.pre [32] (c :: r) with
          | false => rfl
          | true =>
            have q' : ((c :: r).take 1 == [32]) = true := q
            have := eq_of_beq q'
            simp at this
            exact absurd this hc
        show (if TL.pre [32] (c :: r) = true then acc :: TL.spl [32] 0 [] r else TL.spl [32] 0 (acc ++ [c]) r) = _
        rw [hp]
        rfl
      have ih := spl_flat r (acc ++ [c]) (by simp [h]; exact Ne.symm hc)
      rw [e]
      refine ⟨?_, ih.2⟩
      rw [ih.1]
      simp
theorem fits_word {k : Nat} {p w r : List Nat} (hp : plC[k]? = some p) (hw : 32 ∉ w) : fits p (w ++ 32 :: r) = (match cutOf w with | some (j, d) => if j = k then some d else none | none => none) := by
  obtain ⟨a, b, rfl, n1, n2, _⟩ := pl_two hp
  have hk := plIx_at hp
  match w, hw with
  | [], _ =>
    unfold fits
    rw [if_neg]
    · rfl
    · intro z
      have : 32 = a := by
        cases r with
        | nil => simp at z
        | cons x r => simp at z; exact z.1
      exact n1 this.symm
  | [x], _ =>
    unfold fits
    rw [if_neg]
    · rfl
    · intro z
      simp at z
      exact n2 z.2.symm
  | [x, y], _ =>
    show fits [a, b] (x :: y :: 32 :: r) = none
    unfold fits
    show (if [x, y] = [a, b] then (match 32 :: r with | c :: e :: _ => if (49 ≤ c ∧ c ≤ 57) ∧ e = 32 then some ((c : Int) - 48) else none | _ => none) else none) = none
    cases r with
    | nil => simp
    | cons z r => simp
  | [x, y, c], _ =>
    unfold fits
    show (if [x, y] = [a, b] then (if (49 ≤ c ∧ c ≤ 57) ∧ 32 = 32 then some ((c : Int) - 48) else none) else none) = (match (if 49 ≤ c ∧ c ≤ 57 then (plIx [x, y]).map fun k => (k, (c : Int) - 48) else none) with | some (j, d) => if j = k then some d else none | none => none)
    by_cases hc : 49 ≤ c ∧ c ≤ 57
    · rw [if_pos hc, if_pos (show (49 ≤ c ∧ c ≤ 57) ∧ (32 : Nat) = 32 from ⟨hc, rfl⟩)]
      by_cases he : [x, y] = [a, b]
      · rw [if_pos he, he, hk]
        show some _ = (if k = k then some ((c : Int) - 48) else none)
        rw [if_pos rfl]
      · rw [if_neg he]
        cases hq : plIx [x, y] with
        | none => rfl
        | some j =>
          show none = (if j = k then some ((c : Int) - 48) else none)
          rw [if_neg]
          intro z
          subst z
          have := (plIx_some hq).1
          rw [hp] at this
          exact he (Option.some.inj this).symm
    · rw [if_neg hc]
      by_cases he : [x, y] = [a, b]
      · rw [if_pos he, if_neg (fun z => hc z.1)]
      · rw [if_neg he]
  | x :: y :: c :: e :: w, hw =>
    have ne : e ≠ 32 := fun z => hw (by rw [z]; simp)
    unfold fits
    show (if [x, y] = [a, b] then (if (49 ≤ c ∧ c ≤ 57) ∧ e = 32 then some ((c : Int) - 48) else none) else none) = none
    by_cases he : [x, y] = [a, b]
    · rw [if_pos he, if_neg (fun z => ne z.2)]
    · rw [if_neg he]
theorem fits_nil (p : List Nat) (h : p ≠ []) : fits p [] = none := by
  unfold fits
  rw [if_neg]
  intro z
  exact h z.symm
theorem drop_word {w r : List Nat} (h : w.length = 3) : (w ++ 32 :: r).drop 4 = r := by
  match w, h with
  | [a, b, c], _ => rfl
theorem rep_snoc (k : Nat) (hk : k < 6) (pre : List Int) (hl : pre.length = k) (d : Int) : (pre ++ List.replicate (6 - k) 0).set k d = (pre ++ [d]) ++ List.replicate (6 - (k + 1)) 0 := by
  have e : List.replicate (6 - k) (0 : Int) = 0 :: List.replicate (6 - (k + 1)) 0 := by
    rw [show 6 - k = (6 - (k + 1)) + 1 by omega]
    rfl
  rw [e, List.set_append_right _ _ (by omega), hl, Nat.sub_self, List.append_assoc]
  rfl
theorem eat_read : ∀ (n k : Nat) (ws : List (List Nat)) (pre : List Int) (last : Int), k + n = 6 → pre.length = k → last < k → (∀ w ∈ ws, 32 ∉ w) →
    (∀ w r j d, ws = w :: r → cutOf w = some (j, d) → (j : Int) ≤ last ∨ k ≤ j) →
    readW ws (pre ++ List.replicate (6 - k) 0) last = (if (eatL (plC.drop k) (flatW ws)).2 = [] then some (pre ++ (eatL (plC.drop k) (flatW ws)).1) else none)
  | 0, k, ws, pre, last, hk, hl, hlast, hf, hw => by
    have e6 : k = 6 := by omega
    subst e6
    show readW ws (pre ++ []) last = (if flatW ws = [] then some (pre ++ []) else none)
    rw [List.append_nil]
    cases ws with
    | nil => rfl
    | cons w r =>
      rw [if_neg (by rw [flatW_cons]; simp)]
      unfold readW
      cases hc : cutOf w with
      | none => rfl
      | some q =>
        obtain ⟨j, d⟩ := q
        show (if (j : Int) ≤ last then none else _) = none
        rw [if_pos]
        rcases hw w r j d rfl hc with h | h
        · exact h
        · obtain ⟨_, _, _, _, _, _, _, h6⟩ := cut_some hc
          omega
  | n + 1, k, ws, pre, last, hk, hl, hlast, hf, hw => by
    have h6 : k < plC.length := by
      show k < 6
      omega
    have hp := List.getElem?_eq_getElem h6
    have e : List.replicate (6 - k) (0 : Int) = 0 :: List.replicate (6 - (k + 1)) 0 := by
      rw [show 6 - k = (6 - (k + 1)) + 1 by omega]
      rfl
    rw [List.drop_eq_getElem_cons h6]
    have skip : fits plC[k] (flatW ws) = none → (∀ w r j d, ws = w :: r → cutOf w = some (j, d) → (j : Int) ≤ last ∨ k + 1 ≤ j) →
        readW ws (pre ++ List.replicate (6 - k) 0) last = (if (eatL (plC[k] :: plC.drop (k + 1)) (flatW ws)).2 = [] then some (pre ++ (eatL (plC[k] :: plC.drop (k + 1)) (flatW ws)).1) else none) := by
      intro hn hw'
      have ih := eat_read n (k + 1) ws (pre ++ [0]) last (by omega) (by rw [List.length_append, hl]; rfl) (by omega) hf hw'
      have e1 : eatL (plC[k] :: plC.drop (k + 1)) (flatW ws) = (0 :: (eatL (plC.drop (k + 1)) (flatW ws)).1, (eatL (plC.drop (k + 1)) (flatW ws)).2) := by
        show (match fits plC[k] (flatW ws) with | some d => _ | none => _) = _
        rw [hn]
      rw [e1, e]
      rw [List.append_assoc] at ih
      show readW ws (pre ++ ([0] ++ List.replicate (6 - (k + 1)) 0)) last = _
      rw [ih]
      split
      · rw [List.append_assoc]
        rfl
      · rfl
    cases ws with
    | nil =>
      refine skip (fits_nil _ ?_) (fun w r j d z => by cases z)
      obtain ⟨a, b, ew, _⟩ := pl_two hp
      rw [ew]
      simp
    | cons w r =>
      have fw := fits_word (r := flatW r) hp (hf w (by simp))
      rw [← flatW_cons] at fw
      cases hc : cutOf w with
      | none =>
        rw [hc] at fw
        refine skip fw (fun w' r' j d z hc' => ?_)
        cases z
        rw [hc] at hc'
        cases hc'
      | some q =>
        obtain ⟨j, d⟩ := q
        rw [hc] at fw
        by_cases hj : j = k
        · subst hj
          have fw' : fits plC[j] (flatW (w :: r)) = some d := by
            rw [fw]
            show (if j = j then some d else none) = some d
            rw [if_pos rfl]
          have hw3 : w.length = 3 := by
            obtain ⟨a, b, c, ew, _⟩ := cut_some hc
            rw [ew]
            rfl
          have ih := eat_read n (j + 1) r (pre ++ [d]) (j : Int) (by omega) (by rw [List.length_append, hl]; rfl) (by omega) (fun v hv => hf v (List.mem_cons_of_mem _ hv)) (fun v r' j' d' _ _ => by omega)
          have e1 : eatL (plC[j] :: plC.drop (j + 1)) (flatW (w :: r)) = (d :: (eatL (plC.drop (j + 1)) (flatW r)).1, (eatL (plC.drop (j + 1)) (flatW r)).2) := by
            show (match fits plC[j] (flatW (w :: r)) with | some d => _ | none => _) = _
            rw [fw']
            show (d :: (eatL (plC.drop (j + 1)) ((flatW (w :: r)).drop 4)).1, (eatL (plC.drop (j + 1)) ((flatW (w :: r)).drop 4)).2) = _
            rw [flatW_cons, drop_word hw3]
          rw [e1]
          unfold readW
          rw [hc]
          show (if (j : Int) ≤ last then none else readW r ((pre ++ List.replicate (6 - j) 0).set j d) (j : Int)) = _
          rw [if_neg (by omega), rep_snoc j (by omega) pre hl d, ih]
          split
          · rw [List.append_assoc]
            rfl
          · rfl
        · refine skip ?_ (fun w' r' j' d' z hc' => ?_)
          · rw [fw]
            show (if j = k then some d else none) = none
            rw [if_neg hj]
          · cases z
            rw [hc] at hc'
            cases hc'
            rcases hw w r j d rfl hc with h | h
            · exact Or.inl h
            · exact Or.inr (by omega)
theorem eat_sum : ∀ (ps : List (List Nat)) (rest : List Nat), 0 ≤ (eatL ps rest).1.sum ∧ ((eatL ps rest).1.sum = 0 → (eatL ps rest).2 = rest)
  | [], rest => ⟨Int.le_refl 0, fun _ => rfl⟩
  | p :: ps, rest => by
    cases h : fits p rest with
    | none =>
      have ih := eat_sum ps rest
      have e1 : eatL (p :: ps) rest = (0 :: (eatL ps rest).1, (eatL ps rest).2) := by
        show (match fits p rest with | some d => _ | none => _) = _
        rw [h]
      rw [e1, List.sum_cons]
      refine ⟨by omega, fun z => ih.2 (by omega)⟩
    | some d =>
      have ih := eat_sum ps (rest.drop 4)
      have e1 : eatL (p :: ps) rest = (d :: (eatL ps (rest.drop 4)).1, (eatL ps (rest.drop 4)).2) := by
        show (match fits p rest with | some d => _ | none => _) = _
        rw [h]
      have hd : 0 < d := by
        unfold fits at h
        split at h
        · split at h
          · split at h
            · rename_i hc
              cases h
              omega
            · cases h
          · cases h
        · cases h
      rw [e1, List.sum_cons]
      refine ⟨by omega, fun z => ?_⟩
      have := ih.1
      omega
theorem read_meant (t : List Nat) : readI t = meantI t := by
  unfold readI meantI
  by_cases h : t = noneC
  · rw [if_pos h, if_pos h]
  · rw [if_neg h, if_neg h]
    obtain ⟨f1, f2, f3⟩ := spl_flat t [] (by simp)
    rw [List.nil_append] at f1
    have r := eat_read 6 0 (TL.spl [32] 0 [] t) [] (-1) rfl rfl (by decide) f2 (fun w r j d _ _ => Or.inr (Nat.zero_le _))
    rw [List.drop_zero, f1] at r
    have z : ([] : List Int) ++ List.replicate (6 - 0) 0 = zer := rfl
    rw [z, List.nil_append] at r
    rw [r]
    have s := eat_sum plC (t ++ [32])
    show _ = (if (eatL plC (t ++ [32])).2 ≠ [] ∨ (eatL plC (t ++ [32])).1.sum = 0 then none else some (eatL plC (t ++ [32])).1)
    by_cases e : (eatL plC (t ++ [32])).2 = []
    · rw [if_pos e, if_neg]
      rintro (q | q)
      · exact q e
      · have := s.2 q
        rw [e] at this
        simp at this
    · rw [if_neg e, if_pos (Or.inl e)]
/-! ### texts and their codes -/
def plS : List Str := ["lt", "lf", "lh", "rt", "rf", "rh"]
theorem plS_tl : plS.map TL.tl = plC := by decide +kernel
theorem str_eq {a b : Str} : (V.str a = V.str b) ↔ TL.tl a = TL.tl b := ⟨fun h => by cases h; rfl, fun h => by rw [TL.ext_tl h]⟩
theorem dec_str (a b : Str) : decide (V.str a = V.str b) = decide (TL.tl a = TL.tl b) := decide_eq_decide.mpr str_eq
theorem beq_tl (a b : Str) : (a == b) = decide (TL.tl a = TL.tl b) := by
  rw [Bool.eq_iff_iff, decide_eq_true_eq, beq_iff_eq]
  exact ⟨fun h => by rw [h], fun h => TL.ext_tl h⟩
theorem pl_in (z : Str) : inV (.str z) (plS.map V.str) = (plIx (TL.tl z)).isSome := by
  unfold inV plIx
  rw [List.findIdx?_isSome, List.any_map, ← plS_tl, List.any_map]
  congr 1
  funext y
  exact beq_tl y z
theorem pl_get {z : Str} {k : Nat} (h : plIx (TL.tl z) = some k) : plS[k]? = some z ∧ ∀ m, m < k → plS[m]? ≠ some z := by
  have h0 := h
  unfold plIx at h
  obtain ⟨hk, he, hn⟩ := List.findIdx?_eq_some_iff_getElem.mp h
  have g := (plIx_some h0).1
  rw [← plS_tl, List.getElem?_map] at g
  refine ⟨?_, fun m hm z' => ?_⟩
  · cases q : plS[k]? with
    | none =>
      rw [q] at g
      cases g
    | some y =>
      rw [q] at g
      rw [TL.ext_tl (Option.some.inj g)]
  · have hm' : m < plC.length := Nat.lt_trans hm hk
    have := hn m hm
    have e : plC[m]? = some (TL.tl z) := by
      rw [← plS_tl, List.getElem?_map, z']
      rfl
    rw [List.getElem?_eq_getElem hm'] at e
    rw [Option.some.inj e] at this
    simp at this
theorem dig_str {d : Int} (h : 0 ≤ d ∧ d ≤ 9) : TL.tl (Str.ofString (toString d)) = [48 + d.toNat] := by
  have c : d = 0 ∨ d = 1 ∨ d = 2 ∨ d = 3 ∨ d = 4 ∨ d = 5 ∨ d = 6 ∨ d = 7 ∨ d = 8 ∨ d = 9 := by omega
  rcases c with rfl | rfl | rfl | rfl | rfl | rfl | rfl | rfl | rfl | rfl <;> decide +kernel
theorem dig_int {c : Nat} (h : 49 ≤ c ∧ c ≤ 57) : PySem.intText? ⟨#[c]⟩ = some ((c : Int) - 48) := by
  have q : c = 49 ∨ c = 50 ∨ c = 51 ∨ c = 52 ∨ c = 53 ∨ c = 54 ∨ c = 55 ∨ c = 56 ∨ c = 57 := by omega
  rcases q with rfl | rfl | rfl | rfl | rfl | rfl | rfl | rfl | rfl <;> decide +kernel
theorem fig_in (c : Nat) : decide (c ∈ TL.tl (Str.ofString "123456789")) = decide (49 ≤ c ∧ c ≤ 57) := by
  rw [show TL.tl (Str.ofString "123456789") = [49, 50, 51, 52, 53, 54, 55, 56, 57] by decide +kernel, decide_eq_decide]
  simp only [List.mem_cons, List.not_mem_nil, or_false]
  omega
theorem bl_tl : TL.tl (Str.ofString " ") = [32] := by decide +kernel
theorem none_tl : TL.tl (Str.ofString "none") = noneC := by decide +kernel
theorem emp_tl : TL.tl (Str.ofString "") = [] := by decide +kernel
theorem split_words (z : Str) : (Txt.split z (Str.ofString " ")).map TL.tl = TL.spl [32] 0 [] (TL.tl z) := by
  have h := TL.split_spl z (Str.ofString " ") (by rw [bl_tl]; simp) (TL.kind_ok (by decide +kernel))
  rw [bl_tl] at h
  exact h
theorem cut_two {z : Str} {a b c : Nat} (h : TL.tl z = [a, b, c]) : TL.tl (cutS z none (some 2)) = [a, b] := by
  unfold cutS
  rw [TL.tl_mk, HT.sIx_none, show HT.sIx z.length z.length (some 2) = min 2 z.length from HT.sIx_nat z.length z.length 2]
  have hl : z.length = 3 := by rw [TL.len_tl, h]; rfl
  have h' : z.cps.toList = [a, b, c] := h
  rw [hl, h']
  rfl
theorem at_two {z : Str} {a b c : Nat} (h : TL.tl z = [a, b, c]) : atI z.cps.toList 2 = some c := by
  rw [show z.cps.toList = [a, b, c] from h]
  rfl
/-! ### words joined one by one -/
theorem joinL_snoc (S w : List Nat) : ∀ ws : List (List Nat), TL.joinL S (ws ++ [w]) = if ws = [] then w else TL.joinL S ws ++ S ++ w
  | [] => rfl
  | [v] => by
    rw [if_neg (by simp)]
    show v ++ (S ++ w) = v ++ S ++ w
    rw [List.append_assoc]
  | v :: u :: ws => by
    have ih := joinL_snoc S w (u :: ws)
    rw [if_neg (by simp)] at ih ⊢
    show v ++ (S ++ TL.joinL S ((u :: ws) ++ [w])) = (v ++ (S ++ TL.joinL S (u :: ws))) ++ S ++ w
    rw [ih]
    simp [List.append_assoc]
theorem joinL_nil {S : List Nat} {ws : List (List Nat)} (h : ∀ w ∈ ws, w ≠ []) : TL.joinL S ws = [] ↔ ws = [] := by
  constructor
  · intro e
    cases ws with
    | nil => rfl
    | cons w r =>
      have hw := h w (by simp)
      cases r with
      | nil => exact absurd e hw
      | cons v r =>
        have e' : w ++ (S ++ TL.joinL S (v :: r)) = [] := e
        exact absurd (List.append_eq_nil_iff.mp e').1 hw
  · intro e
    rw [e]
    rfl
/-- the words of the first i places -/
def wI (xs : List Int) (i : Nat) : List (List Nat) := (((plC.zip xs).take i).filter fun p => decide (0 < p.2)).map fun p => p.1 ++ [48 + p.2.toNat]
theorem wI_next {xs : List Int} {i : Nat} {p : List Nat} {d : Int} (hp : plC[i]? = some p) (hd : xs[i]? = some d) : wI xs (i + 1) = wI xs i ++ (if 0 < d then [p ++ [48 + d.toNat]] else []) := by
  have h : (plC.zip xs)[i]? = some (p, d) := by
    rw [List.getElem?_zip_eq_some]
    exact ⟨hp, hd⟩
  unfold wI
  rw [List.take_add_one, h, List.filter_append, List.map_append]
  congr 1
  by_cases c : 0 < d
  · rw [if_pos c]
    simp [c]
  · rw [if_neg c]
    simp [c]
theorem wI_all {xs : List Int} (h : EarL xs) : wI xs 6 = wZ plC xs := by
  unfold wI wZ
  rw [List.take_of_length_le]
  rw [List.length_zip, h.1]
  decide
theorem wI_ne (xs : List Int) (i : Nat) : ∀ w ∈ wI xs i, w ≠ [] := by
  intro w hw
  obtain ⟨q, _, rfl⟩ := List.mem_map.mp hw
  simp
theorem flatW_mem {w : List Nat} : ∀ {ws : List (List Nat)}, w ∈ ws → w.length + 1 ≤ (flatW ws).length
  | [], h => by cases h
  | v :: ws, h => by
    rw [flatW_cons, List.length_append, List.length_cons]
    rcases List.mem_cons.mp h with e | e
    · rw [e]
      omega
    · have := flatW_mem (ws := ws) e
      omega
theorem flatW_len {n : Nat} : ∀ {ws : List (List Nat)}, (∀ w ∈ ws, w.length ≤ n) → (flatW ws).length ≤ (n + 1) * ws.length
  | [], _ => Nat.zero_le _
  | v :: ws, h => by
    have ih := flatW_len (n := n) (ws := ws) (fun w hw => h w (List.mem_cons_of_mem _ hw))
    have hv := h v (by simp)
    rw [flatW_cons, List.length_append, List.length_cons, List.length_cons, Nat.mul_succ]
    omega
theorem joinL_flat : ∀ ws : List (List Nat), (TL.joinL [32] ws).length ≤ (flatW ws).length
  | [] => Nat.zero_le _
  | [v] => by
    rw [flatW_cons, List.length_append]
    exact Nat.le_add_right _ _
  | v :: u :: ws => by
    have ih := joinL_flat (u :: ws)
    rw [flatW_cons, List.length_append, List.length_cons]
    show (v ++ ([32] ++ TL.joinL [32] (u :: ws))).length ≤ _
    rw [List.length_append, List.length_append]
    show v.length + (1 + _) ≤ _
    omega
theorem wI_len (xs : List Int) (i : Nat) : (TL.joinL [32] (wI xs i)).length ≤ 4 * i := by
  have h3 : ∀ w ∈ wI xs i, w.length ≤ 3 := by
    intro w hw
    obtain ⟨q, hq, rfl⟩ := List.mem_map.mp hw
    have m1 := (List.of_mem_zip (List.mem_of_mem_take (List.mem_filter.mp hq).1)).1
    obtain ⟨k, hk⟩ := pl_all _ m1
    obtain ⟨a, b, e, _⟩ := pl_two hk
    rw [e]
    exact Nat.le_refl _
  have h4 := flatW_len h3
  have h5 := joinL_flat (wI xs i)
  have h6 : (wI xs i).length ≤ i := by
    unfold wI
    rw [List.length_map]
    have := List.length_filter_le (fun p : List Nat × Int => decide (0 < p.2)) ((plC.zip xs).take i)
    have := List.length_take_le i (plC.zip xs)
    omega
  omega
theorem word_len {t w : List Nat} (h : w ∈ TL.spl [32] 0 [] t) : w.length ≤ t.length := by
  have h1 := flatW_mem h
  rw [(spl_flat t [] (by simp)).1, List.length_append, List.nil_append] at h1
  show w.length ≤ t.length
  simp only [List.length_cons, List.length_nil] at h1
  omega
theorem sum_small : ∀ ws : List (List Nat), (∀ w ∈ ws, w.length ≤ 3) → ((ws.map mkS).map fun y => y.length).sum ≤ 3 * ws.length
  | [], _ => Nat.le_refl _
  | w :: ws, h => by
    have ih := sum_small ws (fun v hv => h v (List.mem_cons_of_mem _ hv))
    have hw := h w (by simp)
    rw [List.map_cons, List.map_cons, List.sum_cons, List.length_cons]
    have e : (mkS w).length = w.length := TL.len_tl _
    rw [e]
    omega
theorem wZ_small {xs : List Int} (h : EarL xs) : (∀ w ∈ wZ plC xs, w.length ≤ 3) ∧ (wZ plC xs).length ≤ 6 := by
  refine ⟨fun w hw => ?_, ?_⟩
  · obtain ⟨q, hq, rfl⟩ := List.mem_map.mp hw
    have m1 := (List.of_mem_zip (List.mem_filter.mp hq).1).1
    obtain ⟨k, hk⟩ := pl_all _ m1
    obtain ⟨a, b, e, _⟩ := pl_two hk
    rw [e]
    exact Nat.le_refl _
  · unfold wZ
    rw [List.length_map]
    have h1 := List.length_filter_le (fun p : List Nat × Int => decide (0 < p.2)) (plC.zip xs)
    rw [List.length_zip, h.1] at h1
    exact h1
theorem tl_mkS (l : List Nat) : TL.tl (mkS l) = l := rfl
/-! ### slices, bounds -/
theorem cut_nat (z : Str) (m n : Nat) (h : m ≤ n) : TL.tl (cutS z (some (m : Int)) (some (n : Int))) = ((TL.tl z).drop m).take (n - m) := by
  unfold cutS
  rw [TL.tl_mk, HT.sIx_nat, HT.sIx_nat, TL.len_tl]
  show ((TL.tl z).drop (min m (TL.tl z).length)).take (min n (TL.tl z).length - min m (TL.tl z).length) = _
  generalize TL.tl z = l
  by_cases hm : m ≤ l.length
  · rw [Nat.min_eq_left hm]
    by_cases hn : n ≤ l.length
    · rw [Nat.min_eq_left hn]
    · rw [Nat.min_eq_right (by omega), List.take_of_length_le (by rw [List.length_drop]; exact Nat.le_refl _), List.take_of_length_le (by rw [List.length_drop]; omega)]
  · rw [Nat.min_eq_right (by omega), Nat.min_eq_right (by omega), List.drop_eq_nil_of_le (Nat.le_refl _), List.drop_eq_nil_of_le (by omega), List.take_nil, List.take_nil]
theorem cut_head (z : Str) (n : Nat) : TL.tl (cutS z none (some (n : Int))) = (TL.tl z).take n := by
  have h := cut_nat z 0 n (Nat.zero_le _)
  rw [List.drop_zero, Nat.sub_zero] at h
  exact h
theorem cut_tail (z : Str) (m : Nat) : TL.tl (cutS z (some (m : Int)) none) = (TL.tl z).drop m := by
  unfold cutS
  rw [TL.tl_mk, HT.sIx_nat, HT.sIx_none, TL.len_tl]
  show ((TL.tl z).drop (min m (TL.tl z).length)).take ((TL.tl z).length - min m (TL.tl z).length) = _
  generalize TL.tl z = l
  by_cases hm : m ≤ l.length
  · rw [Nat.min_eq_left hm, List.take_of_length_le (by rw [List.length_drop]; exact Nat.le_refl _)]
  · rw [Nat.min_eq_right (by omega), List.drop_eq_nil_of_le (Nat.le_refl _), List.drop_eq_nil_of_le (by omega), List.take_nil]
theorem joinL_len {S : List Nat} {n : Nat} : ∀ ws : List (List Nat), (∀ w ∈ ws, w.length ≤ n) → (TL.joinL S ws).length ≤ (n + S.length) * ws.length
  | [], _ => Nat.zero_le _
  | [v], h => by
    have hv := h v (by simp)
    show v.length ≤ (n + S.length) * 1
    omega
  | v :: u :: ws, h => by
    have ih := joinL_len (S := S) (u :: ws) (fun w hw => h w (List.mem_cons_of_mem _ hw))
    have hv := h v (by simp)
    show (v ++ (S ++ TL.joinL S (u :: ws))).length ≤ _
    rw [List.length_append, List.length_append, List.length_cons, Nat.mul_succ]
    omega
theorem sum_le {n : Nat} : ∀ ys : List Str, (∀ y ∈ ys, y.length ≤ n) → (ys.map fun y => y.length).sum ≤ n * ys.length
  | [], _ => Nat.zero_le _
  | y :: ys, h => by
    have ih := sum_le ys (fun v hv => h v (List.mem_cons_of_mem _ hv))
    have hy := h y (by simp)
    rw [List.map_cons, List.sum_cons, List.length_cons, Nat.mul_succ]
    omega
theorem join_len {a : Str} {n : Nat} {ys : List Str} (h : ∀ y ∈ ys, y.length ≤ n) : (Txt.join a ys).length ≤ (n + a.length) * ys.length := by
  have r := joinL_len (S := TL.tl a) (n := n) (ys.map TL.tl) (fun w hw => by
    obtain ⟨y, hy, rfl⟩ := List.mem_map.mp hw
    rw [← TL.len_tl]
    exact h y hy)
  rw [List.length_map, ← TL.len_tl a] at r
  rw [TL.len_tl, TL.join_eq, TL.tl_join]
  exact r
theorem cutV_strs (ys : List Str) (lo hi : Option Int) : ∃ us : List Str, cutV (ys.map V.str) lo hi = us.map V.str ∧ us.length ≤ ys.length ∧ ∀ u ∈ us, u ∈ ys := by
  unfold cutV
  refine ⟨(ys.drop (HT.sIx (ys.map V.str).length 0 lo)).take (HT.sIx (ys.map V.str).length (ys.map V.str).length hi - HT.sIx (ys.map V.str).length 0 lo), ?_, ?_, fun u hu => List.mem_of_mem_drop (List.mem_of_mem_take hu)⟩
  · rw [List.map_take, List.map_drop]
  · rw [List.length_take, List.length_drop]
    omega
theorem get_pl {i : Nat} {v : V} (h : (plS.map V.str)[i]? = some v) : ∃ p : Str, v = .str p ∧ plC[i]? = some (TL.tl p) ∧ p ∈ plS := by
  rw [List.getElem?_map] at h
  cases e : plS[i]? with
  | none =>
    rw [e] at h
    cases h
  | some p =>
    rw [e] at h
    cases h
    refine ⟨p, rfl, ?_, List.mem_of_getElem? e⟩
    rw [← plS_tl, List.getElem?_map, e]
    rfl
def onW (c : Str → Int → V) : V → V → V
  | .str p, .int d => c p d
  | _, _ => .non
def onWb : V → V → Bool
  | _, .int d => decide (0 < d)
  | _, _ => false
theorem zip_pl_mem {xs : List Int} {v w : V} (h : (v, w) ∈ (plS.map V.str).zip (xs.map V.int)) : ∃ (p : Str) (d : Int), v = .str p ∧ w = .int d ∧ p ∈ plS ∧ d ∈ xs := by
  have m := List.of_mem_zip h
  obtain ⟨p, hp, e1⟩ := List.mem_map.mp m.1
  obtain ⟨d, hd, e2⟩ := List.mem_map.mp m.2
  exact ⟨p, d, e1.symm, e2.symm, hp, hd⟩
theorem pl_len {p : Str} (h : p ∈ plS) : p.length = 2 := by
  have m : p = "lt" ∨ p = "lf" ∨ p = "lh" ∨ p = "rt" ∨ p = "rf" ∨ p = "rh" := by simpa [plS] using h
  rcases m with rfl | rfl | rfl | rfl | rfl | rfl <;> decide +kernel
theorem pick_words (xs : List Int) : pick onWb (onW fun p d => .str (mkS (TL.tl p ++ [48 + d.toNat]))) ((plS.map V.str).zip (xs.map V.int)) = ((wZ plC xs).map mkS).map V.str := by
  unfold pick wZ
  rw [← plS_tl, List.map_map, List.map_map]
  generalize plS = ps
  induction ps generalizing xs with
  | nil => rfl
  | cons p ps ih =>
    cases xs with
    | nil => rfl
    | cons d ds =>
      have ih := ih ds
      simp only [List.map_cons, List.zip_cons_cons, List.filter_cons]
      by_cases c : 0 < d
      · rw [if_pos (show onWb (V.str p) (V.int d) = true from decide_eq_true c), if_pos (decide_eq_true c), List.map_cons, List.map_cons, ih]
        rfl
      · rw [if_neg (show ¬ onWb (V.str p) (V.int d) = true by show ¬ decide (0 < d) = true; rw [decide_eq_false c]; decide), if_neg (by rw [decide_eq_false c]; decide), ih]
theorem eat_none {p : List Nat} {ps : List (List Nat)} {rest : List Nat} (h : fits p rest = none) : eatL (p :: ps) rest = (0 :: (eatL ps rest).1, (eatL ps rest).2) := by
  show (match fits p rest with | some d => _ | none => _) = _
  rw [h]
theorem eat_some {p : List Nat} {ps : List (List Nat)} {rest : List Nat} {d : Int} (h : fits p rest = some d) : eatL (p :: ps) rest = (d :: (eatL ps (rest.drop 4)).1, (eatL ps (rest.drop 4)).2) := by
  show (match fits p rest with | some d => _ | none => _) = _
  rw [h]
theorem fits_of {p rest r : List Nat} {c e : Nat} (hA : rest.take 2 = p) (h : rest.drop 2 = c :: e :: r) : fits p rest = if (49 ≤ c ∧ c ≤ 57) ∧ e = 32 then some ((c : Int) - 48) else none := by
  unfold fits
  rw [if_pos hA, h]
theorem fits_no {p rest : List Nat} (h : rest.drop 2 = [] ∨ ∃ c, rest.drop 2 = [c]) : fits p rest = none := by
  unfold fits
  rcases h with h | ⟨c, h⟩
  · rw [h]
    split <;> rfl
  · rw [h]
    split <;> rfl
theorem one_str {z : Str} {c : Nat} (h : TL.tl z = [c]) : z = ⟨#[c]⟩ := TL.ext_tl h
def SomeSs (n : Nat) (v : V) (H : Hp) : Prop := ∃ (p : Addr) (ys : List Str), v = .ref p ∧ H p = some (.lst (ys.map V.str)) ∧ ys.length ≤ n ∧ ∀ y ∈ ys, y.length ≤ 3
theorem SomeT.le {m n : Nat} (h : m ≤ n) {v : V} {H : Hp} (k : SomeT m v H) : SomeT n v H := by
  obtain ⟨z, e, hz⟩ := k
  exact ⟨z, e, by omega⟩
theorem pick_all3 (xs : List Int) : pick (fun _ _ => true) (onW fun p d => .str (mkS (TL.tl p ++ [48 + d.toNat]))) ((plS.map V.str).zip (xs.map V.int)) = ((plS.zip xs).map fun p => mkS (TL.tl p.1 ++ [48 + p.2.toNat])).map V.str := by
  rw [pick_all, List.zip_map, List.map_map, List.map_map]
  rfl
theorem at_code {l : List Nat} {z : Int} {j c : Nat} (e : z = (j : Int)) (h : l[j]? = some c) : atI l z = some c := by
  rw [e]
  exact atI_nat h
theorem eat_len : ∀ (ps : List (List Nat)) (rest : List Nat), (eatL ps rest).1.length = ps.length
  | [], rest => rfl
  | p :: ps, rest => by
    cases h : fits p rest with
    | none =>
      rw [eat_none h, List.length_cons, List.length_cons, eat_len ps rest]
    | some d =>
      rw [eat_some h, List.length_cons, List.length_cons, eat_len ps (rest.drop 4)]
theorem meant_len {t : List Nat} {xs : List Int} (h : meantI t = some xs) : xs.length = 6 := by
  unfold meantI at h
  by_cases hn : t = noneC
  · rw [if_pos hn] at h
    cases h
    rfl
  · rw [if_neg hn] at h
    have h : (if (eatL plC (t ++ [32])).2 ≠ [] ∨ (eatL plC (t ++ [32])).1.sum = 0 then none else some (eatL plC (t ++ [32])).1) = some xs := h
    split at h
    · cases h
    · cases h
      exact eat_len plC _

/-! ### the text -/
def topS (i : Nat) : Stmt := PySem.Challenge.pw_earmarks_k04_ears_written.main.body.getD i (.Pass ⟨0, 0, 0, 0⟩)
abbrev s_row : Stmt := topS 12
abbrev s_ear_by : Stmt := topS 13
abbrev s_ear : Stmt := topS 14
abbrev s_cell : Stmt := topS 15
abbrev s_whole : Stmt := topS 16
abbrev s_like : Stmt := topS 17
abbrev s_shown : Stmt := topS 8
abbrev s_read_cut : Stmt := topS 10
abbrev s_read_ear : Stmt := topS 9
abbrev s_law : Stmt := topS 18
theorem sc_row : FnScope ["_law_cell_here", "_law_many", "_law_base", "_law_found", "_law_k", "_law_turn"] ["_law_cell_here", "_law_many", "_law_base"] (defScope s_row) := ⟨rfl, rfl, rfl, by decide +kernel, rfl, by decide +kernel, by decide +kernel⟩
theorem sc_ear_by : FnScope ["_law_figures", "_law_mode", "_law_figure"] ["_law_figures", "_law_mode"] (defScope s_ear_by) := ⟨rfl, rfl, rfl, by decide +kernel, rfl, by decide +kernel, by decide +kernel⟩
theorem sc_ear : FnScope ["_law_cell_here", "_law_figures"] ["_law_cell_here"] (defScope s_ear) := ⟨rfl, rfl, rfl, by decide +kernel, rfl, by decide +kernel, by decide +kernel⟩
theorem sc_cell : FnScope ["_law_script", "_law_k"] ["_law_script", "_law_k"] (defScope s_cell) := ⟨rfl, rfl, rfl, by decide +kernel, rfl, by decide +kernel, by decide +kernel⟩
theorem sc_whole : FnScope ["_law_found"] ["_law_found"] (defScope s_whole) := ⟨rfl, rfl, rfl, by decide +kernel, rfl, by decide +kernel, by decide +kernel⟩
theorem sc_like : FnScope ["_law_found", "_law_due", "_law_one", "_law_other"] ["_law_found", "_law_due"] (defScope s_like) := ⟨rfl, rfl, rfl, by decide +kernel, rfl, by decide +kernel, by decide +kernel⟩
theorem sc_shown : FnScope ["ear", "words", "place", "depth"] ["ear"] (defScope s_shown) := ⟨rfl, rfl, rfl, by decide +kernel, rfl, by decide +kernel, by decide +kernel⟩
theorem sc_read_cut : FnScope ["word"] ["word"] (defScope s_read_cut) := ⟨rfl, rfl, rfl, by decide +kernel, rfl, by decide +kernel, by decide +kernel⟩
theorem sc_read_ear : FnScope ["text", "depths", "last", "word", "place", "depth"] ["text"] (defScope s_read_ear) := ⟨rfl, rfl, rfl, by decide +kernel, rfl, by decide +kernel, by decide +kernel⟩
theorem sc_law : FnScope ["_law_script", "_law_ear_here", "_law_way", "_law_at", "_law_text", "_law_place", "_law_depth", "_law_k"] ["_law_script"] (defScope s_law) := ⟨rfl, rfl, rfl, by decide +kernel, rfl, by decide +kernel, by decide +kernel⟩
structure Txt (K : PySem.W.Frag) (mg : Str → Option Value) where
  f_row : Addr
  fd_row : FuncData
  F_row : Fun K "_law_row" "_law_row" s_row f_row fd_row
  b_row : Binds K fd_row ["_law_cell_here", "_law_many", "_law_base"] []
  g_row : mg "_law_row" = some (.ref f_row)
  f_ear_by : Addr
  fd_ear_by : FuncData
  F_ear_by : Fun K "_law_ear_by" "_law_ear_by" s_ear_by f_ear_by fd_ear_by
  b_ear_by : Binds K fd_ear_by ["_law_figures", "_law_mode"] []
  g_ear_by : mg "_law_ear_by" = some (.ref f_ear_by)
  f_ear : Addr
  fd_ear : FuncData
  F_ear : Fun K "_law_ear" "_law_ear" s_ear f_ear fd_ear
  b_ear : Binds K fd_ear ["_law_cell_here"] []
  g_ear : mg "_law_ear" = some (.ref f_ear)
  f_cell : Addr
  fd_cell : FuncData
  F_cell : Fun K "_law_cell" "_law_cell" s_cell f_cell fd_cell
  b_cell : Binds K fd_cell ["_law_script", "_law_k"] []
  g_cell : mg "_law_cell" = some (.ref f_cell)
  f_whole : Addr
  fd_whole : FuncData
  F_whole : Fun K "_law_whole" "_law_whole" s_whole f_whole fd_whole
  b_whole : Binds K fd_whole ["_law_found"] []
  g_whole : mg "_law_whole" = some (.ref f_whole)
  f_like : Addr
  fd_like : FuncData
  F_like : Fun K "_law_like" "_law_like" s_like f_like fd_like
  b_like : Binds K fd_like ["_law_found", "_law_due"] []
  g_like : mg "_law_like" = some (.ref f_like)
  f_shown : Addr
  fd_shown : FuncData
  F_shown : Fun K "shown" "shown" s_shown f_shown fd_shown
  b_shown : Binds K fd_shown ["ear"] []
  g_shown : mg "shown" = some (.ref f_shown)
  f_read_cut : Addr
  fd_read_cut : FuncData
  F_read_cut : Fun K "read_cut" "read_cut" s_read_cut f_read_cut fd_read_cut
  b_read_cut : Binds K fd_read_cut ["word"] []
  g_read_cut : mg "read_cut" = some (.ref f_read_cut)
  f_read_ear : Addr
  fd_read_ear : FuncData
  F_read_ear : Fun K "read_ear" "read_ear" s_read_ear f_read_ear fd_read_ear
  b_read_ear : Binds K fd_read_ear ["text"] []
  g_read_ear : mg "read_ear" = some (.ref f_read_ear)
  f_law : Addr
  fd_law : FuncData
  F_law : Fun K "law" "law" s_law f_law fd_law
  b_law : Binds K fd_law ["_law_script"] []
  g_law : mg "law" = some (.ref f_law)
  m_abs : mg "abs" = none
  m_range : mg "range" = none
  m_tuple : mg "tuple" = none
  m_max : mg "max" = none
  m_len : mg "len" = none
  m_isinstance : mg "isinstance" = none
  m_bool : mg "bool" = none
  m_int : mg "int" = none
  m_str : mg "str" = none
  m_list : mg "list" = none
  m_zip : mg "zip" = none
  a_PLACES : Addr
  g_PLACES : mg "PLACES" = some (.ref a_PLACES)
  q_PLACES : ∀ H : Hp, SqT K H a_PLACES [.str "lt", .str "lf", .str "lh", .str "rt", .str "rf", .str "rh"]
  y_PLACES : ∃ o : Obj, K.lookup a_PLACES = some o ∧ o.cls = .type "tuple" ∧ o.dict = none
  t_BARE_WORD : Tok
  g_BARE_WORD : mg "BARE_WORD" = some (.str "none" t_BARE_WORD)
  t_FIGURES : Tok
  g_FIGURES : mg "FIGURES" = some (.str "123456789" t_FIGURES)
  a_BARE_EAR : Addr
  g_BARE_EAR : mg "BARE_EAR" = some (.ref a_BARE_EAR)
  q_BARE_EAR : ∀ H : Hp, SqT K H a_BARE_EAR [.int 0, .int 0, .int 0, .int 0, .int 0, .int 0]
  y_BARE_EAR : ∃ o : Obj, K.lookup a_BARE_EAR = some o ∧ o.cls = .type "tuple" ∧ o.dict = none
  C_BadEar : Addr
  g_BadEar : mg "BadEar" = some (.ref C_BadEar)
  x_BadEar : PySem.W.excIn K C_BadEar [.type "ValueError", .type "Exception", .type "BaseException", .type "object"] "ValueError.__new__" = true
  k_BadEar : PySem.W.keepIn K (.ref C_BadEar) = true
  b_BadEar : PySem.W.subIn K (.ref C_BadEar) (.type "BaseException") = some true
  t_BadEar : PySem.W.typeIn K (.ref C_BadEar) = some (.type "type")
  e_BadEar : PySem.W.exmOne K (.ref C_BadEar) (.ref C_BadEar) = some true

section
variable {P : Program} {w : World} {K : PySem.W.Frag} {mg : Str → Option Value} {base : Heap}
/-! _law_row -/

def sp_row (K : PySem.W.Frag) : Sp := fun vs H Q _ => ∃ c many b : Int, vs = [.int c, .int many, .int b] ∧ (0 ≤ many ∧ many ≤ 1000) ∧ (0 < b ∧ b < 1000000) ∧
  ∀ (p : Addr) (H' : Hp) (xs : List Int), Ex H H' → H' p = some (.lst (xs.map V.int)) → (xs.length : Int) = many → (∀ x ∈ xs, 0 ≤ x ∧ x < b) → Q (.ref p) H'
theorem ok_row (T : Txt K mg) : FnOk P w K mg base CX0 1 T.f_row T.fd_row ["_law_cell_here", "_law_many", "_law_base"] (sp_row K) := by
  refine T.F_row.ok sc_row (fun vs H Q E h => ?_) (fun cdv A outer s H vs Q E hr h => ?_)

  · obtain ⟨c, many, b, rfl, _⟩ := h
    rfl
  · obtain ⟨c, many, b, rfl, hm, hb, q⟩ := h
    refine ⟨_, (pss_cons (ps_set (i := 3) sc_row.nd rfl (Or.inl rfl) (pe_lst pa_nil))
      (pss_cons (ps_set (i := 0) sc_row.nd rfl (Or.inl rfl) (pe_callB call_abs (by rfl) T.m_abs (by decide +kernel) (pa_cons (pv 0) pa_nil)))
      (pss_cons (ps_if (pt_cmpR op_ge (pv 0) (pe_op op_pow pe_int pe_int) (nomark _)) (pss_cons (ps_for PassesOwn.never rfl (pi_range1 (by rfl) T.m_range (pa_cons (pv 1) pa_nil)) (pg_name (i := 4) sc_row.nd rfl (Or.inl rfl)) (pss_cons (ps_expr (pe_bm PySem.F.plainAttrs_list PySem.F.slot_list_append PySem.F.type_list_append mt_append (pv 3) (pa_cons (pe_op op_mod (pv 0) (pv 2)) pa_nil)))
      (pss_one (ps_set (i := 0) sc_row.nd rfl (Or.inl rfl) (pe_op op_fdiv (pv 0) (pv 2))))))
      (pss_one (ps_ret (pv 3)))) pss_nil)
      (pss_cons (ps_set (i := 5) sc_row.nd rfl (Or.inl rfl) (pe_op op_mod (pe_op op_mul (pe_op op_add (pe_op op_mod (pv 0) pe_int) pe_int) pe_int) pe_int))
      (pss_cons (ps_for PassesOwn.never rfl (pi_range1 (by rfl) T.m_range (pa_cons (pv 1) pa_nil)) (pg_name (i := 4) sc_row.nd rfl (Or.inl rfl)) (pss_cons (ps_set (i := 5) sc_row.nd rfl (Or.inl rfl) (pe_op op_mod (pe_op op_add (pe_op op_add (pe_op op_mul (pv 5) pe_int) (pe_op op_mul pe_int (pv 4))) pe_int) pe_int))
      (pss_one (ps_expr (pe_bm PySem.F.plainAttrs_list PySem.F.slot_list_append PySem.F.type_list_append mt_append (pv 3) (pa_cons (pe_op op_mod (pe_op op_fdiv (pv 5) pe_int) (pv 2)) pa_nil))))))
      (pss_one (ps_ret (pv 3)))))))), ?_⟩
    refine ⟨Nat.zero_le _, fun p np => ?_⟩
    refine ⟨_, rfl, _, rfl, ?_⟩
    refine ⟨_, rfl, _, _, rfl, rfl, ⟨by decide, by decide, by decide⟩, _, _, rfl, rfl, _, rfl, ite2 (fun _ => ?_) (fun _ => ?_)⟩
    · refine q_forR1 (n := many) (ea_cons (ev_var rfl) ea_nil) ⟨by omega, by omega⟩ (fun i σ' H' => ∃ (c' : Int) (k' t' : Option V) (xs : List Int), σ' = [some (.int c'), some (.int many), some (.int b), some (.ref p), k', t'] ∧ Ex H H' ∧ H' p = some (.lst (xs.map V.int)) ∧ xs.length = i ∧ ∀ x ∈ xs, 0 ≤ x ∧ x < b) ?_ ?_ ?_
      · intro H1 e1
        exact ⟨_, _, _, [], rfl, (Ex.new np).trans e1, e1 _ _ upd_same, rfl, by simp⟩
      · rintro i σ' H' hi ⟨c', k', t', xs, rfl, e1, h1, hl, hx⟩
        refine ⟨_, rfl, .inl ⟨rfl, _, SqL.of h1⟩, _, rfl, _, rfl, _, _, rfl, rfl, hb.1, p, _, _, rfl, rfl, h1, sz_lt ?_, ?_⟩
        · rw [List.length_map]
          omega
        · refine ⟨_, rfl, _, rfl, _, _, rfl, rfl, ⟨hb.1, by omega⟩, ?_⟩
          refine ⟨_, _, _, xs ++ [c' % b], rfl, Ex.mut e1 np, ?_, by simp [hl], ?_⟩
          · rw [upd_same, List.map_append]
            rfl
          · intro x hx'
            rcases List.mem_append.mp hx' with m | m
            · exact hx x m
            · rw [List.mem_singleton.mp m]
              exact ⟨Int.emod_nonneg _ (by omega), Int.emod_lt_of_pos _ hb.1⟩
      · rintro σ' H' ⟨c', k', t', xs, rfl, e1, h1, hl, hx⟩
        exact ⟨_, rfl, q p H' xs e1 h1 (by omega) hx⟩
    · refine ⟨_, rfl, _, _, rfl, rfl, (by show (0 : Int) < 1000003; decide), _, _, rfl, rfl, _, _, rfl, rfl, .inl ⟨?_, ?_⟩, _, _, rfl, rfl, (by show (0 : Int) < 2147483647; decide), ?_⟩
      · omega
      · omega
      refine q_forR1 (n := many) (ea_cons (ev_var rfl) ea_nil) ⟨by omega, by omega⟩ (fun i σ' H' => ∃ (c' t' : Int) (k' : Option V) (xs : List Int), σ' = [some (.int c'), some (.int many), some (.int b), some (.ref p), k', some (.int t')] ∧ (0 ≤ t' ∧ t' < 2147483647) ∧ Ex H H' ∧ H' p = some (.lst (xs.map V.int)) ∧ xs.length = i ∧ ∀ x ∈ xs, 0 ≤ x ∧ x < b) ?_ ?_ ?_
      · intro H1 e1
        exact ⟨_, _, _, [], rfl, ⟨by omega, by omega⟩, (Ex.new np).trans e1, e1 _ _ upd_same, rfl, by simp⟩
      · rintro i σ' H' hi ⟨c', t', k', xs, rfl, ht, e1, h1, hl, hx⟩
        refine ⟨_, rfl, _, _, rfl, rfl, .inl ⟨by omega, by omega⟩, _, rfl, _, _, rfl, rfl, .inl ⟨by decide, by decide⟩, _, _, rfl, rfl, _, _, rfl, rfl, _, _, rfl, rfl, (by show (0 : Int) < 2147483647; decide), ?_⟩
        refine ⟨_, rfl, .inl ⟨rfl, _, SqL.of h1⟩, _, rfl, _, _, rfl, rfl, ⟨by decide, by decide⟩, _, rfl, _, _, rfl, rfl, hb.1, p, _, _, rfl, rfl, h1, sz_lt ?_, ?_⟩
        · rw [List.length_map]
          omega
        · refine ⟨_, _, _, xs ++ [(t' * 48271 + 9973 * (i : Int) + 11) % 2147483647 / 1021 % b], rfl, ⟨by omega, by omega⟩, Ex.mut e1 np, ?_, by simp [hl], ?_⟩
          · rw [upd_same, List.map_append]
            rfl
          · intro x hx'
            rcases List.mem_append.mp hx' with m | m
            · exact hx x m
            · rw [List.mem_singleton.mp m]
              exact ⟨Int.emod_nonneg _ (by omega), Int.emod_lt_of_pos _ hb.1⟩
      · rintro σ' H' ⟨c', t', k', xs, rfl, ht, e1, h1, hl, hx⟩
        exact ⟨_, rfl, q p H' xs e1 h1 (by omega) hx⟩
/-! _law_ear_by -/

def sp_ear_by (K : PySem.W.Frag) : Sp := fun vs H Q _ => ∃ (a : Addr) (xs : List Int) (m : Int), vs = [.ref a, .int m] ∧ SqL K H a (xs.map V.int) ∧ EarL xs ∧ ∀ (p : Addr) (H' : Hp) (zs : List Int), Ex H H' → H' p = some (.tup (zs.map V.int)) → EarL zs → Q (.ref p) H'
theorem ok_ear_by (T : Txt K mg) : FnOk P w K mg base CX0 1 T.f_ear_by T.fd_ear_by ["_law_figures", "_law_mode"] (sp_ear_by K) := by
  refine T.F_ear_by.ok sc_ear_by (fun vs H Q E h => ?_) (fun cdv A outer s H vs Q E hr h => ?_)

  · obtain ⟨a, xs, m, rfl, _⟩ := h
    rfl
  · obtain ⟨a, xs, m, rfl, hS, hx, q⟩ := h
    refine ⟨_, (pss_cons (ps_if (pt_cmpR op_eq (pe_op op_mod (pv 1) pe_int) pe_int (nomark _)) (pss_one (ps_ret (pe_callTy call_tuple_of (by rfl) T.m_tuple (by decide +kernel) (pa_cons (pe_lc (own := [("_law_figure", 2)]) (g := gName 2) (tt := tYes) (by rfl) sc_ear_by.nd (pi_list (pv 0)) (blkOk_by (own := [("_law_figure", 2)]) (N := ["_law_figures", "_law_mode", "_law_figure"]) (sc := defScope s_ear_by) (by decide +kernel)) (fun _ _ _ _ _ => pg_name (i := 2) sc_ear_by.nd rfl (Or.inl rfl)) (fun _ _ _ _ _ => pts_nil) (fun _ _ _ _ _ => (pe_callB (call_max2 rfl) (by rfl) T.m_max (by decide +kernel) (pa_cons pe_int (pa_cons (pe_op op_sub (pv 2) pe_int) pa_nil))))) pa_nil)))) pss_nil)
      (pss_cons (ps_if (pt_cmpR op_eq (pe_op op_mod (pv 1) pe_int) pe_int (nomark _)) (pss_one (ps_ret (pe_callTy call_tuple_of (by rfl) T.m_tuple (by decide +kernel) (pa_cons (pe_lc (own := [("_law_figure", 2)]) (g := gName 2) (tt := tYes) (by rfl) sc_ear_by.nd (pi_list (pv 0)) (blkOk_by (own := [("_law_figure", 2)]) (N := ["_law_figures", "_law_mode", "_law_figure"]) (sc := defScope s_ear_by) (by decide +kernel)) (fun _ _ _ _ _ => pg_name (i := 2) sc_ear_by.nd rfl (Or.inl rfl)) (fun _ _ _ _ _ => pts_nil) (fun _ _ _ _ _ => (pe_op op_mod (pv 2) pe_int))) pa_nil)))) pss_nil)
      (pss_one (ps_ret (pe_callTy call_tuple_of (by rfl) T.m_tuple (by decide +kernel) (pa_cons (pv 0) pa_nil)))))), ?_⟩
    have h6 : xs.length ≤ 1000 := by
      have := hx.1
      omega
    refine ⟨_, rfl, _, _, rfl, rfl, (by show (0 : Int) < 4; decide), rfl, _, rfl, ite2 (fun _ => ?_) (fun _ => ?_)⟩
    · refine s_retU (eu_tuple (em_ints (fun x => .int (max 0 (x - 7))) (ev_var rfl) hS h6 (fun _ => rfl) (fun x _ H1 _ => ev_max ev_c (ev_op (ev_var rfl) ev_c rv_I0)))) fun p H1 _ e1 h1 => q p H1 (xs.map fun x => max 0 (x - 7)) e1 (by rw [List.map_map]; exact h1) ⟨by simp [hx.1], ?_⟩
      intro y hy
      obtain ⟨x, mx, rfl⟩ := List.mem_map.mp hy
      have := hx.2 x mx
      omega
    refine ⟨_, rfl, _, _, rfl, rfl, (by show (0 : Int) < 4; decide), rfl, _, rfl, ite2 (fun _ => ?_) (fun _ => ?_)⟩
    · refine s_retU (eu_tuple (em_ints (fun x => .int (x % 3)) (ev_var rfl) hS h6 (fun _ => rfl) (fun x _ H1 _ => ev_op (ev_var rfl) ev_c (rv_I (by show (0 : Int) < 3; decide))))) fun p H1 _ e1 h1 => q p H1 (xs.map fun x => x % 3) e1 (by rw [List.map_map]; exact h1) ⟨by simp [hx.1], ?_⟩
      intro y hy
      obtain ⟨x, mx, rfl⟩ := List.mem_map.mp hy
      have := hx.2 x mx
      omega
    · exact s_retU (eu_tupleL (ev_var rfl) hS) fun p H1 _ e1 h1 => q p H1 xs e1 h1 hx
/-! _law_ear -/

theorem cut_to (xs : List V) (n : Nat) : cutV xs none (some (n : Int)) = xs.take n := by
  unfold cutV
  rw [HT.sIx_none, show HT.sIx xs.length xs.length (some (n : Int)) = min n xs.length from HT.sIx_nat xs.length xs.length n]
  simp [List.take_eq_take_iff]
theorem six_of {xs : List Int} (hl : (xs.length : Int) = 7) (hb : ∀ x ∈ xs, 0 ≤ x ∧ x < 10) : cutV (xs.map V.int) none (some 6) = (xs.take 6).map V.int ∧ EarL (xs.take 6) ∧ ∃ v, atI (xs.map V.int) 6 = some (.int v) := by
  refine ⟨?_, ⟨by rw [List.length_take]; omega, fun x hx => ?_⟩, ?_⟩
  · rw [List.map_take]
    exact cut_to _ 6
  · have := hb x (List.mem_of_mem_take hx)
    omega
  · have h6 : 6 < xs.length := by omega
    exact ⟨xs[6], at_of (j := 6) rfl (by rw [List.getElem?_map, List.getElem?_eq_getElem h6]; rfl)⟩
def sp_ear (K : PySem.W.Frag) : Sp := fun vs H Q _ => ∃ c : Int, vs = [.int c] ∧ ∀ (p : Addr) (H' : Hp) (zs : List Int), Ex H H' → H' p = some (.tup (zs.map V.int)) → EarL zs → Q (.ref p) H'
theorem ok_ear (T : Txt K mg) : FnOk P w K mg base CX0 2 T.f_ear T.fd_ear ["_law_cell_here"] (sp_ear K) := by
  refine T.F_ear.ok sc_ear (fun vs H Q E h => ?_) (fun cdv A outer s H vs Q E hr h => ?_)

  · obtain ⟨c, rfl, _⟩ := h
    rfl
  · obtain ⟨c, rfl, q⟩ := h
    refine ⟨_, (pss_cons (ps_set (i := 1) sc_ear.nd rfl (Or.inl rfl) (pe_call (ok_row T) (hr.mono (by decide)) (by rfl) T.g_row T.F_row.kp T.b_row .nil pass0 (pa_cons (pv 0) (pa_cons pe_int (pa_cons pe_int pa_nil)))))
      (pss_one (ps_ret (pe_call (ok_ear_by T) (hr.mono (by decide)) (by rfl) T.g_ear_by T.F_ear_by.kp T.b_ear_by .nil pass0 (pa_cons (pe_slice sl_list (pv 1) po_none (po_some pe_int)) (pa_cons (pe_ix ix_list (pv 1) pe_int (fun _ _ => rfl)) pa_nil)))))), ?_⟩
    refine ⟨_, rfl, c, 7, 10, rfl, ⟨by decide, by decide⟩, ⟨by decide, by decide⟩, fun p1 H1 xs e1 h1 hl hb => ?_⟩
    obtain ⟨c6, E6, v, hv⟩ := six_of hl hb
    refine ⟨_, rfl, 6, rfl, p1, _, rfl, sq_of h1, fun p2 n2 => ?_⟩
    have e2 : Ex H1 (upd H1 p2 (.lst (cutV (xs.map V.int) none (some 6)))) := Ex.new n2
    refine ⟨_, rfl, p1, _, 6, _, rfl, rfl, sq_of (e2 _ _ h1), hv, ?_⟩
    exact ⟨p2, xs.take 6, v, rfl, sq_of (by rw [upd_same, c6]), E6, fun p H' zs e3 h3 E3 => q p H' zs ((e1.trans e2).trans e3) h3 E3⟩
/-! _law_cell -/

def sp_cell (K : PySem.W.Frag) : Sp := fun vs H Q _ => ∃ (a : Addr) (ns : List Int) (j : Int), vs = [.ref a, .int j] ∧ SqL K H a (ns.map V.int) ∧ 0 ≤ j ∧ ∀ c : Int, Q (.int c) H
theorem ok_cell (T : Txt K mg) : FnOk P w K mg base CX0 1 T.f_cell T.fd_cell ["_law_script", "_law_k"] (sp_cell K) := by
  refine T.F_cell.ok sc_cell (fun vs H Q E h => ?_) (fun cdv A outer s H vs Q E hr h => ?_)

  · obtain ⟨a, ns, j, rfl, _⟩ := h
    rfl
  · obtain ⟨a, ns, j, rfl, hS, hj, q⟩ := h
    refine ⟨_, (pss_cons (ps_if (pt_cmpR op_lt (pv 1) (pe_callB call_len_seq (by rfl) T.m_len (by decide +kernel) (pa_cons (pv 0) pa_nil)) (nomark _)) (pss_one (ps_ret (pe_ix ix_list (pv 0) (pv 1) (fun _ _ => rfl)))) pss_nil)
      (pss_one (ps_ret pe_int))), ?_⟩
    refine ⟨_, rfl, _, rfl, a, _, rfl, .inl hS, _, _, rfl, rfl, _, rfl, ite2 (fun c => ?_) (fun c => ?_)⟩
    · have c' : j < ((ns.map V.int).length : Int) := of_decide_eq_true c
      have hk : j.toNat < ns.length := by
        rw [List.length_map] at c'
        omega
      refine ⟨_, rfl, _, rfl, a, _, j, .int ns[j.toNat], rfl, rfl, hS, at_of (j := j.toNat) (by omega) ?_, q _⟩
      rw [List.getElem?_map, List.getElem?_eq_getElem hk]
      rfl
    · exact q 0
/-! _law_whole -/

def sp_whole (K : PySem.W.Frag) : Sp := fun vs H Q _ => ∃ i : Int, vs = [.int i] ∧ Q (.bl true) H
theorem ok_whole (T : Txt K mg) : FnOk P w K mg base CX0 1 T.f_whole T.fd_whole ["_law_found"] (sp_whole K) := by
  refine T.F_whole.ok sc_whole (fun vs H Q E h => ?_) (fun cdv A outer s H vs Q E hr h => ?_)

  · obtain ⟨i, rfl, _⟩ := h
    rfl
  · obtain ⟨i, rfl, q⟩ := h
    refine ⟨_, (pss_one (ps_ret (pe_and (pe_callB call_isi (by rfl) T.m_isinstance (by decide +kernel) (pa_cons (pv 0) (pa_cons (pe_bltn (v := .ty "int") (by rfl) T.m_int (by decide +kernel) rfl) pa_nil))) (pe_one (pe_not (pe_callB call_isi (by rfl) T.m_isinstance (by decide +kernel) (pa_cons (pv 0) (pa_cons (pe_bltn (v := .ty "bool") (by rfl) T.m_bool (by decide +kernel) rfl) pa_nil)))))))), ?_⟩
    refine ⟨_, rfl, _, _, _, _, true, rfl, .ty _, .base (.int i), kit_ty (by decide +kernel), true, rfl, iteT ?_⟩
    exact ⟨_, rfl, _, _, _, _, false, rfl, .ty _, .base (.int i), kit_ty (by decide +kernel), false, rfl, q⟩
/-! _law_like -/

def Sc (v : V) : Prop := v = .non ∨ (∃ b, v = .bl b) ∨ (∃ i, v = .int i) ∨ ∃ s, v = .str s
/-- alike to a depth: scalars, tuples and lists of alike ones -/
def Lk (K : PySem.W.Frag) (H : Hp) : Nat → V → V → Prop
  | 0, _, _ => False
  | n + 1, v, w => (v = w ∧ Sc v) ∨ ∃ (a b : Addr) (xs ys : List V), v = .ref a ∧ w = .ref b ∧ ((SqT K H a xs ∧ SqT K H b ys) ∨ (H a = some (.lst xs) ∧ H b = some (.lst ys))) ∧ xs.length = ys.length ∧ xs.length ≤ 1000 ∧ ∀ p ∈ xs.zip ys, Lk K H n p.1 p.2
theorem Lk.mono {K : PySem.W.Frag} {H H' : Hp} (e : Ex H H') : ∀ (n : Nat) (v w : V), Lk K H n v w → Lk K H' n v w
  | 0, _, _, h => h
  | n + 1, v, w, h => by
    rcases h with h | ⟨a, b, xs, ys, e1, e2, k, hl, hz, r⟩
    · exact Or.inl h
    · refine Or.inr ⟨a, b, xs, ys, e1, e2, ?_, hl, hz, fun p hp => Lk.mono e n _ _ (r p hp)⟩
      rcases k with ⟨k1, k2⟩ | ⟨k1, k2⟩
      · exact Or.inl ⟨ex_t e k1, ex_t e k2⟩
      · exact Or.inr ⟨e _ _ k1, e _ _ k2⟩
theorem Lk.bl {K : PySem.W.Frag} {H : Hp} {n : Nat} {b c : Bool} (h : b = c) : Lk K H (n + 1) (.bl b) (.bl c) := by
  subst h
  exact Or.inl ⟨rfl, Or.inr (Or.inl ⟨b, rfl⟩)⟩
theorem Lk.int {K : PySem.W.Frag} {H : Hp} {n : Nat} {b c : Int} (h : b = c) : Lk K H (n + 1) (.int b) (.int c) := by
  subst h
  exact Or.inl ⟨rfl, Or.inr (Or.inr (Or.inl ⟨b, rfl⟩))⟩
theorem Lk.str {K : PySem.W.Frag} {H : Hp} {n : Nat} {b c : Str} (h : b = c) : Lk K H (n + 1) (.str b) (.str c) := by
  subst h
  exact Or.inl ⟨rfl, Or.inr (Or.inr (Or.inr ⟨b, rfl⟩))⟩
/-- two tuples of the same ints -/
theorem Lk.ints {K : PySem.W.Frag} {H : Hp} {n : Nat} {a b : Addr} {xs ys : List Int} (h1 : TpI K H a xs) (h2 : TpI K H b ys) (h : xs = ys) (hz : xs.length ≤ 1000) : Lk K H (n + 2) (.ref a) (.ref b) := by
  subst h
  refine Or.inr ⟨a, b, _, _, rfl, rfl, Or.inl ⟨h1, h2⟩, rfl, by simpa using hz, fun p hp => ?_⟩
  obtain ⟨v, w⟩ := p
  obtain ⟨x, y, rfl, rfl, m⟩ := zip_ints_mem hp
  obtain ⟨i, hi, e⟩ := List.getElem_of_mem m
  rw [List.getElem_zip] at e
  cases e
  exact Lk.int rfl
def sp_like (K : PySem.W.Frag) (n : Nat) : Sp := fun vs H Q _ => ∃ v w : V, vs = [v, w] ∧ Lk K H n v w ∧ ∀ H', Ex H H' → Q (.bl true) H'
theorem ok_likeS (T : Txt K mg) (n : Nat) (ih : FnOk P w K mg base CX0 (n + 1) T.f_like T.fd_like ["_law_found", "_law_due"] (sp_like K n)) : FnOk P w K mg base CX0 (n + 2) T.f_like T.fd_like ["_law_found", "_law_due"] (sp_like K (n + 1)) := by
  refine T.F_like.ok sc_like (fun vs H Q E h => ?_) (fun cdv A outer s H vs Q E hr h => ?_)

  · obtain ⟨v, w, rfl, _⟩ := h
    rfl
  · obtain ⟨v, u, rfl, hL, q⟩ := h
    refine ⟨_, (pss_cons (ps_if (pt_cmpR op_isN (pv 1) pe_non (nomark _)) (pss_one (ps_ret (pe_cmpR op_isN (pv 0) pe_non (nomark _)))) pss_nil)
      (pss_cons (ps_if (pt_cmpR op_isT (pv 1) pe_bl (nomark _)) (pss_one (ps_ret (pe_cmpR op_isT (pv 0) pe_bl (nomark _)))) pss_nil)
      (pss_cons (ps_if (pt_cmpR op_isT (pv 1) pe_bl (nomark _)) (pss_one (ps_ret (pe_cmpR op_isT (pv 0) pe_bl (nomark _)))) pss_nil)
      (pss_cons (ps_if (pt_val (pe_callB call_isi (by rfl) T.m_isinstance (by decide +kernel) (pa_cons (pv 1) (pa_cons (pe_bltn (v := .ty "int") (by rfl) T.m_int (by decide +kernel) rfl) pa_nil)))) (pss_one (ps_ret (pe_and (pe_call (ok_whole T) (hr.mono (by omega)) (by rfl) T.g_whole T.F_whole.kp T.b_whole .nil pass0 (pa_cons (pv 0) pa_nil)) (pe_one (pe_cmpR op_eq (pv 0) (pv 1) (nomark _)))))) pss_nil)
      (pss_cons (ps_if (pt_val (pe_callB call_isi (by rfl) T.m_isinstance (by decide +kernel) (pa_cons (pv 1) (pa_cons (pe_bltn (v := .ty "str") (by rfl) T.m_str (by decide +kernel) rfl) pa_nil)))) (pss_one (ps_ret (pe_and (pe_callB call_isi (by rfl) T.m_isinstance (by decide +kernel) (pa_cons (pv 0) (pa_cons (pe_bltn (v := .ty "str") (by rfl) T.m_str (by decide +kernel) rfl) pa_nil))) (pe_one (pe_cmpR op_eq (pv 0) (pv 1) (nomark _)))))) pss_nil)
      (pss_cons (ps_if (PW.pt (pw_and (pt_val (pe_callB call_isi (by rfl) T.m_isinstance (by decide +kernel) (pa_cons (pv 1) (pa_cons (pe_bltn (v := .ty "tuple") (by rfl) T.m_tuple (by decide +kernel) rfl) pa_nil)))) (pw_and1 (pt_not (pt_val (pe_callB call_isi (by rfl) T.m_isinstance (by decide +kernel) (pa_cons (pv 0) (pa_cons (pe_bltn (v := .ty "tuple") (by rfl) T.m_tuple (by decide +kernel) rfl) pa_nil)))))))) (pss_one (ps_ret pe_bl)) pss_nil)
      (pss_cons (ps_if (PW.pt (pw_and (pt_val (pe_callB call_isi (by rfl) T.m_isinstance (by decide +kernel) (pa_cons (pv 1) (pa_cons (pe_bltn (v := .ty "list") (by rfl) T.m_list (by decide +kernel) rfl) pa_nil)))) (pw_and1 (pt_not (pt_val (pe_callB call_isi (by rfl) T.m_isinstance (by decide +kernel) (pa_cons (pv 0) (pa_cons (pe_bltn (v := .ty "list") (by rfl) T.m_list (by decide +kernel) rfl) pa_nil)))))))) (pss_one (ps_ret pe_bl)) pss_nil)
      (pss_cons (ps_if (pt_cmpR op_ne (pe_callB call_len_seq (by rfl) T.m_len (by decide +kernel) (pa_cons (pv 0) pa_nil)) (pe_callB call_len_seq (by rfl) T.m_len (by decide +kernel) (pa_cons (pv 1) pa_nil)) (nomark _)) (pss_one (ps_ret pe_bl)) pss_nil)
      (pss_cons (ps_for PassesOwn.never rfl (pi_zipA (by rfl) T.m_zip (pa_cons (pv 0) (pa_cons (pv 1) pa_nil))) (pg_tup rfl (pgs_cons (pg_name (i := 2) sc_like.nd rfl (Or.inl rfl)) (pgs_cons (pg_name (i := 3) sc_like.nd rfl (Or.inl rfl)) pgs_nil))) (pss_one (ps_if (pt_not (pt_val (pe_call ih hr (by rfl) T.g_like T.F_like.kp T.b_like .nil pass0 (pa_cons (pv 2) (pa_cons (pv 3) pa_nil))))) (pss_one (ps_ret pe_bl)) pss_nil)))
      (pss_one (ps_ret pe_bl))))))))))), ?_⟩
    rcases hL with ⟨rfl, rfl | ⟨b, rfl⟩ | ⟨i, rfl⟩ | ⟨z, rfl⟩⟩ | ⟨a, b, xs, ys, rfl, rfl, hk, hl, hz, hr2⟩
    · exact ⟨_, rfl, rfl, _, rfl, iteT ⟨_, rfl, rfl, q H (Ex.refl H)⟩⟩
    · refine ⟨_, rfl, rfl, _, rfl, iteF ?_⟩
      cases b with
      | true => exact ⟨_, rfl, true, rfl, _, rfl, iteT ⟨_, rfl, true, rfl, q H (Ex.refl H)⟩⟩
      | false => exact ⟨_, rfl, true, rfl, _, rfl, iteF ⟨_, rfl, false, rfl, _, rfl, iteT ⟨_, rfl, false, rfl, q H (Ex.refl H)⟩⟩⟩
    · refine ⟨_, rfl, rfl, _, rfl, iteF ⟨_, rfl, true, rfl, _, rfl, iteF ⟨_, rfl, false, rfl, _, rfl, iteF ?_⟩⟩⟩
      refine ⟨_, rfl, _, _, _, _, true, rfl, .ty _, .base (.int i), kit_ty (by decide +kernel), true, rfl, iteT ?_⟩
      refine ⟨_, rfl, i, rfl, true, rfl, iteT ⟨_, rfl, _, rfl, rfl, ?_⟩⟩
      rw [decide_eq_true rfl]
      exact q H (Ex.refl H)
    · refine ⟨_, rfl, rfl, _, rfl, iteF ⟨_, rfl, true, rfl, _, rfl, iteF ⟨_, rfl, false, rfl, _, rfl, iteF ?_⟩⟩⟩
      refine ⟨_, rfl, _, _, _, _, false, rfl, .ty _, .base (.str z), kit_ty (by decide +kernel), false, rfl, iteF ?_⟩
      refine ⟨_, rfl, _, _, _, _, true, rfl, .ty _, .base (.str z), kit_ty (by decide +kernel), true, rfl, iteT ?_⟩
      refine ⟨_, rfl, _, _, _, _, true, rfl, .ty _, .base (.str z), kit_ty (by decide +kernel), true, rfl, iteT ⟨_, rfl, _, rfl, rfl, ?_⟩⟩
      rw [decide_eq_true rfl]
      exact q H (Ex.refl H)
    · refine ⟨_, rfl, rfl, _, rfl, iteF ⟨_, rfl, true, rfl, _, rfl, iteF ⟨_, rfl, false, rfl, _, rfl, iteF ?_⟩⟩⟩
      rcases hk with ⟨k1, k2⟩ | ⟨k1, k2⟩
      · have ta := tyx_tup k1
        have tb := tyx_tup k2
        refine ⟨_, rfl, _, _, _, _, false, rfl, .ty _, tb, kit_ty (by decide +kernel), false, rfl, iteF ?_⟩
        refine ⟨_, rfl, _, _, _, _, false, rfl, .ty _, tb, kit_ty (by decide +kernel), false, rfl, iteF ?_⟩
        refine ⟨_, rfl, _, _, _, _, true, rfl, .ty _, tb, kit_ty (by decide +kernel), true, rfl, iteT ⟨_, rfl, _, _, _, _, true, rfl, .ty _, ta, kit_ty (by decide +kernel), true, rfl, iteF ?_⟩⟩
        refine ⟨_, rfl, _, _, _, _, false, rfl, .ty _, tb, kit_ty (by decide +kernel), false, rfl, iteF (iteF ?_)⟩
        refine ⟨_, rfl, a, xs, rfl, .inr k1, _, rfl, b, ys, rfl, .inr k2, rfl, _, rfl, iteNS (by rw [hl]) ?_⟩
        refine ⟨_, rfl, _, rfl, a, b, xs, ys, rfl, Or.inr ⟨k1, k2, for_it (walkTT hl) (fun i σ' H' => ∃ x' y' : Option V, σ' = [some (.ref a), some (.ref b), x', y'] ∧ Ex H H') ⟨_, _, rfl, Ex.refl H⟩ ?_ ?_ ?_⟩⟩
        · rintro i σ' H' _ ⟨x', y', rfl, e1⟩
          exact ⟨ex_t e1 k1, ex_t e1 k2⟩
        · rintro i v σ' H' H'' hi ⟨x', y', rfl, e1⟩ ⟨T', x, y, rfl, nT, rfl, gx, gy⟩
          refine gTwo_of ?_
          have eT : Ex H (upd H' T' (.tup [x, y])) := e1.trans (Ex.new nT)
          refine ⟨_, rfl, _, rfl, x, y, rfl, Lk.mono eT _ _ _ (hr2 (x, y) (zip_mem gx gy)), fun H3 e3 => ⟨true, rfl, iteF ?_⟩⟩
          exact ⟨_, _, rfl, eT.trans e3⟩
        · rintro σ' H' ⟨x', y', rfl, e1⟩
          exact q H' e1
      · have ta : TyX K H (.ref a) (.type "list") := tyx_lst k1
        have tb : TyX K H (.ref b) (.type "list") := tyx_lst k2
        refine ⟨_, rfl, _, _, _, _, false, rfl, .ty _, tb, kit_ty (by decide +kernel), false, rfl, iteF ?_⟩
        refine ⟨_, rfl, _, _, _, _, false, rfl, .ty _, tb, kit_ty (by decide +kernel), false, rfl, iteF ?_⟩
        refine ⟨_, rfl, _, _, _, _, false, rfl, .ty _, tb, kit_ty (by decide +kernel), false, rfl, iteF (iteF ?_)⟩
        refine ⟨_, rfl, _, _, _, _, true, rfl, .ty _, tb, kit_ty (by decide +kernel), true, rfl, iteT ⟨_, rfl, _, _, _, _, true, rfl, .ty _, ta, kit_ty (by decide +kernel), true, rfl, iteF ?_⟩⟩
        refine ⟨_, rfl, a, xs, rfl, .inl (sq_of k1), _, rfl, b, ys, rfl, .inl (sq_of k2), rfl, _, rfl, iteNS (by rw [hl]) ?_⟩
        refine ⟨_, rfl, _, rfl, a, b, xs, ys, rfl, Or.inl ⟨sq_of k1, sq_of k2, for_it (walkLL hl) (fun i σ' H' => ∃ x' y' : Option V, σ' = [some (.ref a), some (.ref b), x', y'] ∧ Ex H H') ⟨_, _, rfl, Ex.refl H⟩ ?_ ?_ ?_⟩⟩
        · rintro i σ' H' _ ⟨x', y', rfl, e1⟩
          exact ⟨ex_l e1 (sq_of k1), ex_l e1 (sq_of k2)⟩
        · rintro i v σ' H' H'' hi ⟨x', y', rfl, e1⟩ ⟨T', x, y, rfl, nT, rfl, gx, gy⟩
          refine gTwo_of ?_
          have eT : Ex H (upd H' T' (.tup [x, y])) := e1.trans (Ex.new nT)
          refine ⟨_, rfl, _, rfl, x, y, rfl, Lk.mono eT _ _ _ (hr2 (x, y) (zip_mem gx gy)), fun H3 e3 => ⟨true, rfl, iteF ?_⟩⟩
          exact ⟨_, _, rfl, eT.trans e3⟩
        · rintro σ' H' ⟨x', y', rfl, e1⟩
          exact q H' e1
theorem ok_like (T : Txt K mg) : ∀ n : Nat, FnOk P w K mg base CX0 (n + 1) T.f_like T.fd_like ["_law_found", "_law_due"] (sp_like K n)
  | 0 => ⟨fun vs H Q E h => by obtain ⟨v, w, _, h, _⟩ := h; exact h.elim, fun A outer s H args us vs Q E _ _ _ _ h => by obtain ⟨v, w, _, h, _⟩ := h; exact h.elim⟩
  | n + 1 => ok_likeS T n (ok_like T n)
/-! shown -/

def sp_shown (K : PySem.W.Frag) : Sp := fun vs H Q _ => ∃ (a : Addr) (xs : List Int), vs = [.ref a] ∧ TpI K H a xs ∧ EarL xs ∧ ∀ H', Ex H H' → Q (.str (mkS (showL xs))) H'
theorem ok_shown (T : Txt K mg) : FnOk P w K mg base CX0 1 T.f_shown T.fd_shown ["ear"] (sp_shown K) := by
  refine T.F_shown.ok sc_shown (fun vs H Q E h => ?_) (fun cdv A outer s H vs Q E hr h => ?_)

  · obtain ⟨a, xs, rfl, _⟩ := h
    rfl
  · obtain ⟨a, xs, rfl, hx, E6, q⟩ := h
    refine ⟨_, (pss_cons (ps_setLc (i := 1) (own := [("place", 2), ("depth", 3)]) (g := gTwo K 2 3) (by rfl) sc_shown.nd rfl rfl (sw_true rfl rfl rfl (by decide +kernel)) (pi_zipA (by rfl) T.m_zip (pa_cons (pe_glob (v := .ref T.a_PLACES) (by rfl) T.g_PLACES rfl) (pa_cons (pv 0) pa_nil))) (blkOk_by (own := [("place", 2), ("depth", 3)]) (N := ["ear", "words", "place", "depth"]) (sc := defScope s_shown) (by decide +kernel)) (fun _ _ _ _ _ => pg_tup rfl (pgs_cons (pg_name (i := 2) sc_shown.nd rfl (Or.inl rfl)) (pgs_cons (pg_name (i := 3) sc_shown.nd rfl (Or.inl rfl)) pgs_nil))) (fun _ _ _ _ _ => pts_one (pt_cmpR op_gt (pv 3) pe_int (nomark _))) (fun _ _ _ _ _ => (pe_joined (PJ.cons (pe_fmt (pv 2)) (PJ.cons (pe_fmt (pv 3)) PJ.nil)))))
      (pss_one (ps_ret (pe_ifExp (pt_truth (pv 1) (by intro _; rfl)) (pe_join pe_str (pv 1)) (pe_glob (v := .str "none") (by rfl) T.g_BARE_WORD ⟨_, rfl⟩))))), ?_⟩
    refine q_asgL (xs := ((wZ plC xs).map mkS).map V.str) ?_ fun p H1 _ e1 h1 => ?_
    · rw [← pick_words]
      refine el_zip (K := K) (xs := plS.map V.str) (ys := xs.map V.int) onWb (onW fun p d => .str (mkS (TL.tl p ++ [48 + d.toNat]))) (ea_cons ev_c (ea_cons (ev_var rfl) ea_nil)) (T.q_PLACES H) hx (by rw [List.length_map, List.length_map, E6.1]; rfl) (by decide) (fun _ _ => rfl) ?_ ?_
      · intro v w H' _ m
        obtain ⟨p, d, rfl, rfl, _, _⟩ := zip_pl_mem m
        exact et_test (ev_op (ev_var rfl) ev_c rv_I0)
      · intro v w H' _ m _
        obtain ⟨p, d, rfl, rfl, hp, hd⟩ := zip_pl_mem m
        have bd := E6.2 d hd
        have lp := pl_len hp
        have es : (Str.empty ++ p) ++ (Str.ofString (toString d)) = mkS (TL.tl p ++ [48 + d.toNat]) := by
          apply TL.ext_tl
          rw [TL.tl_append, TL.tl_append, dig_str bd]
          rfl
        have l1 : (Str.empty ++ p).length = 2 := by
          rw [TL.len_tl, TL.tl_append, ← lp, TL.len_tl]
          rfl
        have l2 : ((Str.empty ++ p) ++ (Str.ofString (toString d))).length = 3 := by
          rw [es, TL.len_tl]
          show (TL.tl p ++ [48 + d.toNat]).length = 3
          rw [List.length_append, ← TL.len_tl, lp]
          rfl
        refine fun H1 e1 Q q => ⟨_, rfl, .inl ⟨p, rfl, sz_of (by omega), p, rfl, sz_of (by omega), ?_⟩⟩
        refine ⟨_, rfl, .inr ⟨d, rfl, ?_, _, rfl, sz_of (show ((Str.empty ++ p) ++ (Str.ofString (toString d))).length ≤ 100000 by omega), ?_⟩⟩
        · have h9 : d.natAbs ≤ 9 := by omega
          have := Nat.log2_le_self d.natAbs
          omega
        · show Q (.str ((Str.empty ++ p) ++ (Str.ofString (toString d)))) H1
          rw [es]
          exact q H1 (Ex.refl H1)
    have sq : SqL K H1 p (((wZ plC xs).map mkS).map V.str) := sq_of h1
    refine ⟨_, rfl, _, .inl ⟨_, sq, rfl⟩, ?_⟩
    have r := wI_all E6
    by_cases c : wZ plC xs = []
    · rw [c]
      refine iteF ?_
      have q' := q H1 e1
      unfold showL at q'
      rw [if_pos c] at q'
      have en : mkS noneC = Str.ofString "none" := TL.ext_tl none_tl.symm
      rw [en] at q'
      exact q'
    · have nb : (!(((wZ plC xs).map mkS).map V.str).isEmpty) = true := by
        cases hw : wZ plC xs with
        | nil => exact absurd hw c
        | cons w ws => rfl
      rw [nb]
      refine iteT ⟨⟨_, rfl⟩, _, rfl, Str.ofString " ", p, (wZ plC xs).map mkS, rfl, rfl, .inl sq, ?_, ?_⟩
      · have s1 := sum_small _ (wZ_small E6).1
        have s2 := (wZ_small E6).2
        have s3 : (Str.ofString " ").length = 1 := by decide +kernel
        rw [s3, List.length_map]
        omega
      · have q' := q H1 e1
        unfold showL at q'
        rw [if_neg c] at q'
        have ej : Txt.join (Str.ofString " ") ((wZ plC xs).map mkS) = mkS (TL.joinL [32] (wZ plC xs)) := by
          apply TL.ext_tl
          rw [TL.join_eq, TL.tl_join, bl_tl, List.map_map]
          show TL.joinL [32] ((wZ plC xs).map (TL.tl ∘ mkS)) = TL.joinL [32] (wZ plC xs)
          rw [show (TL.tl ∘ mkS) = id from rfl, List.map_id]
        rw [ej]
        exact q'
/-! read_cut -/

def sp_read_cut (K : PySem.W.Frag) (C : Addr) : Sp := fun vs H Q E => ∃ z : Str, vs = [.str z] ∧ z.length ≤ 5000 ∧ (∀ (k : Nat) (d : Int), cutOf (TL.tl z) = some (k, d) → ∀ (p : Addr) (H' : Hp), Ex H H' → H' p = some (.tup [.int (k : Int), .int d]) → Q (.ref p) H') ∧ (cutOf (TL.tl z) = none → E (.ref C) none H)
theorem ok_read_cut (T : Txt K mg) : FnOk P w K mg base (L2.CX P w) 1 T.f_read_cut T.fd_read_cut ["word"] (sp_read_cut K T.C_BadEar) := by
  refine T.F_read_cut.okX sc_read_cut (fun vs H Q E h => ?_) (fun cdv A outer s H vs Q E hr h => ?_)

  · obtain ⟨z, rfl, _⟩ := h
    rfl
  · obtain ⟨z, rfl, hz, q, qx⟩ := h
    refine ⟨_, (pss_cons (ps_if (PW.pt (pw_or (pt_cmpR op_ne (pe_callB call_len_str (by rfl) T.m_len (by decide +kernel) (pa_cons (pv 0) pa_nil)) pe_int (nomark _)) (pw_or (pt_cmpR op_notIn_seq (pe_slice sl_str (pv 0) po_none (po_some pe_int)) (pe_glob (v := .ref T.a_PLACES) (by rfl) T.g_PLACES rfl) (by rfl)) (pw_or1 (pt_cmpR op_notIn_sign (pe_ix ix_str (pv 0) pe_int (fun _ _ => rfl)) (pe_glob (v := .str "123456789") (by rfl) T.g_FIGURES ⟨_, rfl⟩) (by rfl)))))) (pss_one (ps_raise rfl (takes_of rfl rfl rfl rfl) (pmk_own0 PySem.F.excBase_ValueError T.x_BadEar T.g_BadEar T.k_BadEar (raises_own T.b_BadEar T.t_BadEar) rfl))) pss_nil)
      (pss_one (ps_ret (pe_tup (pa_cons (pe_bm PySem.F.plainAttrs_tuple PySem.F.slot_tuple_index PySem.F.type_tuple_index mt_tup_index (pe_glob (v := .ref T.a_PLACES) (by rfl) T.g_PLACES rfl) (pa_cons (pe_slice sl_str (pv 0) po_none (po_some pe_int)) pa_nil)) (pa_cons (pe_callTy call_int_str (by rfl) T.m_int (by decide +kernel) (pa_cons (pe_ix ix_str (pv 0) pe_int (fun _ _ => rfl)) pa_nil)) pa_nil)))))), ?_⟩
    have hs : z.length ≤ sizeLine := sz_of (by omega)
    refine ⟨_, rfl, z, rfl, hs, rfl, _, rfl, ?_⟩
    by_cases h3 : z.length = 3
    · rw [decide_eq_true (show V.int (z.length : Int) = V.int 3 by rw [h3]; rfl)]
      refine iteF ?_
      obtain ⟨a, b, c, ez⟩ : ∃ a b c, TL.tl z = [a, b, c] := by
        rw [TL.len_tl] at h3
        match TL.tl z, h3 with
        | [a, b, c], _ => exact ⟨a, b, c, rfl⟩
      have e2 := cut_two ez
      have ec : cutOf (TL.tl z) = if 49 ≤ c ∧ c ≤ 57 then (plIx [a, b]).map fun k => (k, (c : Int) - 48) else none := by
        rw [ez]
        rfl
      have hin := pl_in (cutS z none (some 2))
      rw [e2] at hin
      refine ⟨_, rfl, 2, rfl, z, rfl, hs, T.a_PLACES, plS.map V.str, rfl, .inr (T.q_PLACES H), rfl, rfl, _, rfl, ?_⟩
      rw [hin]
      cases hp : plIx [a, b] with
      | none =>
        refine iteT ?_
        refine qx ?_
        rw [ec, hp]
        split <;> rfl
      | some k =>
        refine iteF ?_
        refine ⟨_, rfl, z, 2, c, rfl, rfl, hs, at_two ez, c, _, rfl, rfl, _, rfl, ?_⟩
        rw [fig_in]
        by_cases hc : 49 ≤ c ∧ c ≤ 57
        · rw [decide_eq_true hc]
          refine iteF ?_
          have g := pl_get (z := cutS z none (some 2)) (k := k) (by rw [e2]; exact hp)
          refine ⟨.inr (.inl ⟨rfl, T.y_PLACES⟩), _, rfl, 2, rfl, z, rfl, hs, T.a_PLACES, plS, _, k, rfl, rfl, T.q_PLACES H, g.1, g.2, ?_⟩
          refine ⟨_, rfl, z, 2, c, rfl, rfl, hs, at_two ez, _, _, rfl, dig_int hc, (by show 1 ≤ 640; decide), (by show 2 ≤ sizeLine; decide), fun p np => ?_⟩
          refine q k ((c : Int) - 48) ?_ p _ (Ex.new np) upd_same
          rw [ec, if_pos hc, hp]
          rfl
        · rw [decide_eq_false hc]
          refine iteT ?_
          refine qx ?_
          rw [ec, if_neg hc]
    · rw [decide_eq_false (show ¬ V.int (z.length : Int) = V.int 3 from fun e => h3 (by have := V.int.inj e; omega))]
      refine iteT (iteT ?_)
      refine qx ?_
      rw [TL.len_tl] at h3
      match TL.tl z, h3 with
      | [], _ => rfl
      | [a], _ => rfl
      | [a, b], _ => rfl
      | [a, b, c], h => exact absurd rfl h
      | a :: b :: c :: e :: r, _ => rfl
/-! read_ear -/

theorem readW_cons (w : List Nat) (ws : List (List Nat)) (dep : List Int) (last : Int) : readW (w :: ws) dep last = match cutOf w with | none => none | some (k, d) => if (k : Int) ≤ last then none else readW ws (dep.set k d) (k : Int) := rfl
def sp_read_ear (K : PySem.W.Frag) (C : Addr) : Sp := fun vs H Q E => ∃ z : Str, vs = [.str z] ∧ z.length ≤ 5000 ∧ (∀ xs, readI (TL.tl z) = some xs → ∀ (p : Addr) (H' : Hp), Ex H H' → TpI K H' p xs → Q (.ref p) H') ∧ (readI (TL.tl z) = none → ∀ H', Ex H H' → E (.ref C) none H')
theorem ok_read_ear (T : Txt K mg) : FnOk P w K mg base (L2.CX P w) 2 T.f_read_ear T.fd_read_ear ["text"] (sp_read_ear K T.C_BadEar) := by
  refine T.F_read_ear.okX sc_read_ear (fun vs H Q E h => ?_) (fun cdv A outer s H vs Q E hr h => ?_)

  · obtain ⟨z, rfl, _⟩ := h
    rfl
  · obtain ⟨z, rfl, hz, q, qx⟩ := h
    refine ⟨_, (pss_cons (ps_if (pt_cmpR op_eq (pv 0) (pe_glob (v := .str "none") (by rfl) T.g_BARE_WORD ⟨_, rfl⟩) (nomark _)) (pss_one (ps_ret (pe_glob (v := .ref T.a_BARE_EAR) (by rfl) T.g_BARE_EAR rfl))) pss_nil)
      (pss_cons (ps_set (i := 1) sc_read_ear.nd rfl (Or.inl rfl) (pe_callTy call_list_of (by rfl) T.m_list (by decide +kernel) (pa_cons (pe_glob (v := .ref T.a_BARE_EAR) (by rfl) T.g_BARE_EAR rfl) pa_nil)))
      (pss_cons (ps_set (i := 2) sc_read_ear.nd rfl (Or.inl rfl) (pe_un un_neg pe_int))
      (pss_cons (ps_for (passes_of rfl) rfl (pi_list (pe_split (pv 0) pe_str)) (pg_name (i := 3) sc_read_ear.nd rfl (Or.inl rfl)) (pss_cons (ps_asg (pe_call (ok_read_cut T) (hr.mono (by decide)) (by rfl) T.g_read_cut T.F_read_cut.kp T.b_read_cut .nil (passes_call (takes_of rfl rfl rfl rfl) fun _ _ _ _ h => h) (pa_cons (pv 3) pa_nil)) (pg_tup rfl (pgs_cons (pg_name (i := 4) sc_read_ear.nd rfl (Or.inl rfl)) (pgs_cons (pg_name (i := 5) sc_read_ear.nd rfl (Or.inl rfl)) pgs_nil))))
      (pss_cons (ps_if (pt_cmpR op_le (pv 4) (pv 2) (nomark _)) (pss_one (ps_raise rfl (takes_of rfl rfl rfl rfl) (pmk_own0 PySem.F.excBase_ValueError T.x_BadEar T.g_BadEar T.k_BadEar (raises_own T.b_BadEar T.t_BadEar) rfl))) pss_nil)
      (pss_cons (ps_asg (pv 5) (pg_sub (pv 1) (pv 4) set_list))
      (pss_one (ps_set (i := 2) sc_read_ear.nd rfl (Or.inl rfl) (pv 4)))))))
      (pss_one (ps_ret (pe_callTy call_tuple_of (by rfl) T.m_tuple (by decide +kernel) (pa_cons (pv 1) pa_nil)))))))), ?_⟩
    refine ⟨_, rfl, rfl, _, rfl, ?_⟩
    rw [dec_str, none_tl]
    by_cases hn : TL.tl z = noneC
    · rw [decide_eq_true hn]
      refine iteT ?_
      exact q zer (by unfold readI; rw [if_pos hn]) _ H (Ex.refl H) (T.q_BARE_EAR H)
    · rw [decide_eq_false hn]
      refine iteF ?_
      have er : readI (TL.tl z) = readW (TL.spl [32] 0 [] (TL.tl z)) zer (-1) := by
        unfold readI
        rw [if_neg hn]
      rw [er] at q qx
      refine ⟨_, _, rfl, .inr (T.q_BARE_EAR H), fun p np => ⟨1, rfl, ?_⟩⟩
      have sw := split_words z
      refine ⟨_, rfl, ⟨_, rfl⟩, z, Str.ofString " ", rfl, rfl, (by decide +kernel), sz_of (by omega), fun r nr => ?_⟩
      generalize Txt.split z (Str.ofString " ") = ys at sw ⊢
      have wl : ∀ y ∈ ys, y.length ≤ 5000 := fun y hy => by
        have m : TL.tl y ∈ TL.spl [32] 0 [] (TL.tl z) := by
          rw [← sw]
          exact List.mem_map_of_mem hy
        have := word_len m
        rw [TL.len_tl] at hz ⊢
        omega
      rw [← sw] at q qx
      have nrp : r ≠ p := fun e => by
        rw [e, upd_same] at nr
        cases nr
      have e1 : Ex H (upd H p (.lst [.int 0, .int 0, .int 0, .int 0, .int 0, .int 0])) := Ex.new np
      have e2 := Ex.new (o := .lst (ys.map V.str)) nr
      refine ⟨r, rfl, ⟨_, sq_of upd_same⟩, for_it (walk_list (K := K) (a := r) (xs := ys.map V.str)) (fun i σ' H' => ∃ (dep : List Int) (last : Int) (w' p' d' : Option V), σ' = [some (.str z), some (.ref p), some (.int last), w', p', d'] ∧ Ex H H' ∧ H' p = some (.lst (dep.map V.int)) ∧ H' r = some (.lst (ys.map V.str)) ∧ dep.length = 6 ∧ readW ((ys.map TL.tl).drop i) dep last = readW (ys.map TL.tl) zer (-1)) ?_ ?_ ?_ ?_⟩
      · exact ⟨zer, -1, _, _, _, rfl, e1.trans e2, e2 _ _ upd_same, upd_same, rfl, rfl⟩
      · rintro i σ' H' _ ⟨dep, last, w', p', d', rfl, _, _, h4, _⟩
        exact sq_of h4
      · rintro i v σ' H' H'' hi ⟨dep, last, w', p', d', rfl, e3, h3, h4, hl, hr'⟩ ⟨rfl, gv⟩
        rw [List.length_map] at hi
        have gy : ys[i]? = some ys[i] := List.getElem?_eq_getElem hi
        have ev : v = .str ys[i] := by
          rw [List.getElem?_map, gy] at gv
          exact (Option.some.inj gv).symm
        subst ev
        have hi' : i < (ys.map TL.tl).length := by
          rw [List.length_map]
          exact hi
        rw [List.drop_eq_getElem_cons hi', List.getElem_map, readW_cons] at hr'
        have lw := wl _ (List.getElem_mem hi)
        refine ⟨_, rfl, ys[i], rfl, lw, fun k d hc p2 H2 e4 h5 => ?_, fun hc => ?_⟩
        · rw [hc] at hr'
          have hr' : (if (k : Int) ≤ last then none else readW ((ys.map TL.tl).drop (i + 1)) (dep.set k d) (k : Int)) = readW (ys.map TL.tl) zer (-1) := hr'
          obtain ⟨_, _, _, _, _, _, _, k6⟩ := cut_some hc
          refine gTwo_at h5 ?_
          refine ⟨_, rfl, _, rfl, _, _, rfl, rfl, _, rfl, ite2 (fun c => ?_) (fun c => ?_)⟩
          · have c' : (k : Int) ≤ last := of_decide_eq_true c
            rw [if_pos c'] at hr'
            exact qx hr'.symm _ (e3.trans e4)
          · have c' : ¬ (k : Int) ≤ last := of_decide_eq_false (Bool.eq_false_iff.mpr c)
            rw [if_neg c'] at hr'
            have h6 := e4 _ _ h3
            have h7 := e4 _ _ h4
            refine ⟨_, rfl, _, rfl, _, rfl, p, _, _, k, rfl, rfl, h6, ixN_nat (by rw [List.length_map, hl]; exact k6), ?_⟩
            refine ⟨_, rfl, dep.set k d, (k : Int), _, _, _, rfl, Ex.mut (e3.trans e4) np, ?_, ?_, ?_, ?_⟩
            · rw [upd_same, List.map_set]
            · rw [upd_ne nrp]
              exact h7
            · rw [List.length_set]
              exact hl
            · exact hr'
        · rw [hc] at hr'
          exact qx hr'.symm _ e3
      · rintro σ' H' ⟨dep, last, w', p', d', rfl, e3, h3, _, hl, hr'⟩
        rw [List.length_map, ← List.length_map (f := TL.tl), List.drop_eq_nil_of_le (Nat.le_refl _)] at hr'
        exact s_retU (eu_tupleL (ev_var rfl) (sq_of h3)) fun p2 H2 _ e4 h4 => q dep hr'.symm p2 H2 (e3.trans e4) (st_of h4)
/-! law -/

def oneAt (xs : List Int) (at' : Int) (i : Nat) : Int := xs.getD i 0 * b2i (decide (V.int (i : Int) = V.int at'))
theorem given_all (n : Nat) (v : Nat → V) : given n (fun _ => true) v = (List.range n).map v := by
  unfold given
  rw [List.filter_eq_self.mpr (fun _ _ => rfl)]
theorem oneAt_ear {xs : List Int} (h : EarL xs) (at' : Int) : EarL ((List.range 6).map (oneAt xs at')) := by
  refine ⟨rfl, fun y hy => ?_⟩
  obtain ⟨i, hi, rfl⟩ := List.mem_map.mp hy
  have hi' : i < xs.length := by
    rw [h.1]
    exact List.mem_range.mp hi
  have b := h.2 _ (List.getElem_mem hi')
  unfold oneAt
  rw [List.getD_eq_getElem?_getD, List.getElem?_eq_getElem hi']
  show 0 ≤ xs[i] * b2i _ ∧ xs[i] * b2i _ ≤ 9
  cases decide (V.int (i : Int) = V.int at') with
  | true =>
    show 0 ≤ xs[i] * 1 ∧ xs[i] * 1 ≤ 9
    omega
  | false =>
    show 0 ≤ xs[i] * 0 ∧ xs[i] * 0 ≤ 9
    omega

def sp_law (K : PySem.W.Frag) : Sp := fun vs H Q _ => ∃ (a : Addr) (ns : List Int), vs = [.ref a] ∧ SqL K H a (ns.map V.int) ∧ ns.length ≤ 63 ∧ ∀ H', Q (.bl true) H'
theorem ok_law (T : Txt K mg) : FnOk P w K mg base CX0 4 T.f_law T.fd_law ["_law_script"] (sp_law K) := by
  refine T.F_law.ok sc_law (fun vs H Q E h => ?_) (fun cdv A outer s H vs Q E hr h => ?_)

  · obtain ⟨a, ns, rfl, _⟩ := h
    rfl
  · obtain ⟨a, ns, rfl, hS, _, q⟩ := h
    refine ⟨_, (pss_cons (ps_set (i := 1) sc_law.nd rfl (Or.inr rfl) (pe_call (ok_ear T) (hr.mono (by decide)) (by rfl) T.g_ear T.F_ear.kp T.b_ear .nil pass0 (pa_cons (pe_call (ok_cell T) (hr.mono (by decide)) (by rfl) T.g_cell T.F_cell.kp T.b_cell .nil pass0 (pa_cons (pv 0) (pa_cons pe_int pa_nil))) pa_nil)))
      (pss_cons (ps_set (i := 2) sc_law.nd rfl (Or.inl rfl) (pe_op op_mod (pe_call (ok_cell T) (hr.mono (by decide)) (by rfl) T.g_cell T.F_cell.kp T.b_cell .nil pass0 (pa_cons (pv 0) (pa_cons pe_int pa_nil))) pe_int))
      (pss_cut (ps_if (pt_cmpR op_eq (pv 2) pe_int (nomark _)) (pss_one (ps_set (i := 1) sc_law.nd rfl (Or.inr rfl) (pe_tup (pa_cons pe_int (pa_cons pe_int (pa_cons pe_int (pa_cons pe_int (pa_cons pe_int (pa_cons pe_int pa_nil))))))))) pss_nil)
      (pss_cut (ps_if (pt_cmpR op_eq (pv 2) pe_int (nomark _)) (pss_cons (ps_set (i := 3) sc_law.nd rfl (Or.inr rfl) (pe_op op_mod (pe_op op_fdiv (pe_call (ok_cell T) (hr.mono (by decide)) (by rfl) T.g_cell T.F_cell.kp T.b_cell .nil pass0 (pa_cons (pv 0) (pa_cons pe_int pa_nil))) pe_int) pe_int))
      (pss_one (ps_set (i := 1) sc_law.nd rfl (Or.inr rfl) (pe_callTy call_tuple_of (by rfl) T.m_tuple (by decide +kernel) (pa_cons (pe_lc (own := [("_law_k", 7)]) (g := gName 7) (tt := tYes) (by rfl) sc_law.nd (pi_range1 (by rfl) T.m_range (pa_cons pe_int pa_nil)) (blkOk_by (own := [("_law_k", 7)]) (N := ["_law_script", "_law_ear_here", "_law_way", "_law_at", "_law_text", "_law_place", "_law_depth", "_law_k"]) (sc := defScope s_law) (by decide +kernel)) (fun _ _ _ _ _ => pg_name (i := 7) sc_law.nd rfl (Or.inl rfl)) (fun _ _ _ _ _ => pts_nil) (fun _ _ _ _ _ => (pe_op op_mul (pe_ix (show IxR _ (rIxT K) from ix_tup) (pv 1) (pv 7) (fun _ _ => rfl)) (pe_callTy call_int1 (by rfl) T.m_int (by decide +kernel) (pa_cons (pe_cmpR op_eq (pv 7) (pv 3) (nomark _)) pa_nil))))) pa_nil))))) pss_nil)
      (pss_cons (ps_set (i := 4) sc_law.nd rfl (Or.inl rfl) pe_str)
      (pss_cons (ps_for PassesOwn.never rfl (pi_zipA (by rfl) T.m_zip (pa_cons (pe_tup (pa_cons pe_str (pa_cons pe_str (pa_cons pe_str (pa_cons pe_str (pa_cons pe_str (pa_cons pe_str pa_nil))))))) (pa_cons (pv 1) pa_nil))) (pg_tup rfl (pgs_cons (pg_name (i := 5) sc_law.nd rfl (Or.inl rfl)) (pgs_cons (pg_name (i := 6) sc_law.nd rfl (Or.inl rfl)) pgs_nil))) (pss_one (ps_if (pt_cmpR op_gt (pv 6) pe_int (nomark _)) (pss_cons (ps_if (pt_cmpR op_ne (pv 4) pe_str (nomark _)) (pss_one (ps_set (i := 4) sc_law.nd rfl (Or.inl rfl) (pe_op op_add_str (pv 4) pe_str))) pss_nil)
      (pss_one (ps_set (i := 4) sc_law.nd rfl (Or.inl rfl) (pe_op op_add_str (pe_op op_add_str (pv 4) (pv 5)) (pe_callTy call_str_int (by rfl) T.m_str (by decide +kernel) (pa_cons (pv 6) pa_nil)))))) pss_nil)))
      (pss_cut (ps_if (pt_cmpR op_eq (pv 4) pe_str (nomark _)) (pss_one (ps_set (i := 4) sc_law.nd rfl (Or.inl rfl) pe_str)) pss_nil)
      (pss_one (ps_ret (pe_and (pe_call (ok_like T 2) (hr.mono (by decide)) (by rfl) T.g_like T.F_like.kp T.b_like .nil pass0 (pa_cons (pe_call (ok_shown T) (hr.mono (by decide)) (by rfl) T.g_shown T.F_shown.kp T.b_shown .nil pass0 (pa_cons (pv 1) pa_nil)) (pa_cons (pv 4) pa_nil))) (pe_one (pe_call (ok_like T 2) (hr.mono (by decide)) (by rfl) T.g_like T.F_like.kp T.b_like .nil pass0 (pa_cons (pe_call (ok_read_ear T) (hr.mono (by decide)) (by rfl) T.g_read_ear T.F_read_ear.kp T.b_read_ear .nil passL (pa_cons (pv 4) pa_nil)) (pa_cons (pv 1) pa_nil)))))))))))))), ?_⟩
    refine ⟨_, rfl, a, ns, 0, rfl, hS, by decide, fun c0 => ⟨c0, rfl, fun p1 H1 xs e1 h1 E1 => ?_⟩⟩
    refine ⟨_, rfl, a, ns, 1, rfl, ex_l e1 hS, by decide, fun c1 => ⟨_, _, rfl, rfl, (by show (0 : Int) < 8; decide), ?_⟩⟩
    refine ⟨fun σ' H' => ∃ (p : Addr) (xs : List Int), σ' = [some (.ref a), some (.ref p), some (.int (c1 % 8)), none, none, none, none, none] ∧ Ex H1 H' ∧ H' p = some (.tup (xs.map V.int)) ∧ EarL xs, ?_, ?_⟩
    · refine ⟨_, rfl, rfl, _, rfl, ite2 (fun _ => ?_) (fun _ => ⟨p1, xs, rfl, Ex.refl _, h1, E1⟩)⟩
      exact ⟨(by show 6 ≤ sizeLine; decide), fun t nt => ⟨t, zer, rfl, Ex.new nt, upd_same, rfl, by decide⟩⟩
    clear h1 E1 xs
    rintro σ' H2 ⟨p2, xs, rfl, e2, h2, E2⟩
    refine ⟨fun σ' H' => ∃ (p : Addr) (xs : List Int) (x3 : Option V), σ' = [some (.ref a), some (.ref p), some (.int (c1 % 8)), x3, none, none, none, none] ∧ Ex H2 H' ∧ H' p = some (.tup (xs.map V.int)) ∧ EarL xs, ?_, ?_⟩
    · refine ⟨_, rfl, rfl, _, rfl, ite2 (fun _ => ?_) (fun _ => ⟨p2, xs, _, rfl, Ex.refl _, h2, E2⟩)⟩
      refine ⟨_, rfl, a, ns, 1, rfl, ex_l (e1.trans e2) hS, by decide, fun c2 => ⟨_, _, rfl, rfl, ⟨by decide, by decide⟩, _, _, rfl, rfl, (by show (0 : Int) < 6; decide), ?_⟩⟩
      refine s_asgU (eu_tuple (el_lcR1 (n := 6) (fun _ => true) (fun i => .int (oneAt xs (c2 / 8 % 6) i)) (ea_cons ev_c ea_nil) ⟨by decide, by decide⟩ (fun _ => rfl) (fun _ _ _ _ => et_yes) ?_)) fun p3 H3 _ e3 h3 => ?_
      · intro i H3 e3 hi _
        have hi' : i < xs.length := by
          rw [E2.1]
          omega
        have b := E2.2 _ (List.getElem_mem hi')
        have eg : oneAt xs (c2 / 8 % 6) i = xs[i] * b2i (decide (V.int (i : Int) = V.int (c2 / 8 % 6))) := by
          unfold oneAt
          rw [List.getD_eq_getElem?_getD, List.getElem?_eq_getElem hi']
          rfl
        rw [eg]
        refine ev_op (ev_op (ev_var rfl) (ev_var rfl) (rv_ixT (K := K) (st_of (e3 _ _ h2)) (at_of (j := i) rfl (by rw [List.getElem?_map, List.getElem?_eq_getElem hi']; rfl)))) ?_ (rv_I (.inl ⟨by omega, by omega⟩))
        exact fun H4 e4 Q q => ⟨_, rfl, _, rfl, rfl, .inr ⟨_, rfl, q H4 (Ex.refl H4)⟩⟩
      · refine ⟨p3, (List.range 6).map (oneAt xs (c2 / 8 % 6)), _, rfl, e3, ?_, oneAt_ear E2 _⟩
        rw [h3, given_all, List.map_map]
        rfl
    clear h2 E2 xs
    rintro σ' H3 ⟨p3, xs, x3, rfl, e3, h3, E3⟩
    have hx : ∀ {H'}, Ex H3 H' → TpI K H' p3 xs := fun e => st_of (e _ _ h3)
    refine ⟨(by show 6 ≤ sizeLine; decide), fun t nt => ?_⟩
    have et := Ex.new (o := .tup (plS.map V.str)) nt
    have lx : (plS.map V.str).length = (xs.map V.int).length := by
      rw [List.length_map, List.length_map, E3.1]
      rfl
    refine ⟨_, rfl, t, p3, plS.map V.str, xs.map V.int, rfl, Or.inr ⟨st_of upd_same, hx et, for_it (walkTT lx) (fun i σ' H' => ∃ x5 x6 : Option V, σ' = [some (.ref a), some (.ref p3), some (.int (c1 % 8)), x3, some (.str (mkS (TL.joinL [32] (wI xs i)))), x5, x6, none] ∧ Ex H3 H' ∧ H' t = some (.tup (plS.map V.str))) ?_ ?_ ?_ ?_⟩⟩
    · exact ⟨none, none, rfl, et, upd_same⟩
    · rintro i σ' H' _ ⟨x5, x6, rfl, e4, h4⟩
      exact ⟨st_of h4, hx e4⟩
    · rintro i v σ' H' H'' hi ⟨x5, x6, rfl, e4, h4⟩ ⟨T', x, y, rfl, nT, rfl, gx, gy⟩
      obtain ⟨p, rfl, gp, mp⟩ := get_pl gx
      obtain ⟨d, rfl, gd, md⟩ := get_int gy
      have hi6 : i < 6 := hi
      have bd := E3.2 d md
      have lp := pl_len mp
      have wn := wI_next gp gd
      have wl := wI_len xs i
      have hT := Ex.new (o := .tup [.str p, .int d]) nT
      have e5 := e4.trans hT
      have h5 := hT _ _ h4
      have lt : (mkS (TL.joinL [32] (wI xs i))).length ≤ 24 := by
        rw [TL.len_tl, tl_mkS]
        omega
      have ld : (Str.ofString (toString d)).length = 1 := by
        rw [TL.len_tl, dig_str bd]
        rfl
      have lg : d.natAbs.log2 < 1920 := by
        have := Nat.log2_le_self d.natAbs
        omega
      refine gTwo_of ?_
      refine ⟨_, rfl, _, _, rfl, rfl, _, rfl, ite2 (fun c => ?_) (fun c => ?_)⟩
      · have c' : 0 < d := of_decide_eq_true c
        rw [if_pos c'] at wn
        refine ⟨_, rfl, rfl, _, rfl, ?_⟩
        rw [dec_str, emp_tl, tl_mkS]
        by_cases hw : wI xs i = []
        · rw [hw, decide_eq_true (show TL.joinL [32] [] = [] from rfl)]
          refine iteF ?_
          refine ⟨_, rfl, _, rfl, _, _, rfl, rfl, sz_of (by rw [lp]; show 0 + 2 ≤ 100000; decide), _, rfl, d, rfl, lg, _, _, rfl, rfl, sz_of (show (mkS [] ++ p).length + (Str.ofString (toString d)).length ≤ 100000 by rw [ld, TL.len_tl, TL.tl_append, List.length_append, ← TL.len_tl p, lp]; decide), ?_⟩
          refine ⟨some (.str p), some (.int d), ?_, e5, h5⟩
          have es : (mkS [] ++ p) ++ Str.ofString (toString d) = mkS (TL.joinL [32] (wI xs (i + 1))) := by
            apply TL.ext_tl
            rw [wn, hw, joinL_snoc, if_pos rfl, TL.tl_append, TL.tl_append, dig_str bd]
            rfl
          show [_, _, _, _, some (V.str ((mkS [] ++ p) ++ Str.ofString (toString d))), _, _, _] = _
          rw [es]
        · rw [decide_eq_false (fun z => hw ((joinL_nil (wI_ne xs i)).mp z))]
          refine iteT ?_
          have l3 : (mkS (TL.joinL [32] (wI xs i)) ++ Str.ofString " ").length ≤ 25 := by
            rw [TL.len_tl, TL.tl_append, List.length_append, bl_tl, ← TL.len_tl]
            show _ + 1 ≤ 25
            omega
          have l4 : (mkS (TL.joinL [32] (wI xs i)) ++ Str.ofString " " ++ p).length ≤ 27 := by
            rw [TL.len_tl, TL.tl_append, List.length_append, ← TL.len_tl, ← TL.len_tl, lp]
            omega
          have l1 : (Str.ofString " ").length = 1 := by decide +kernel
          refine ⟨_, rfl, _, _, rfl, rfl, sz_of (show (mkS (TL.joinL [32] (wI xs i))).length + (Str.ofString " ").length ≤ 100000 by omega), ?_⟩
          refine ⟨_, rfl, _, rfl, _, _, rfl, rfl, sz_of (show (mkS (TL.joinL [32] (wI xs i)) ++ Str.ofString " ").length + p.length ≤ 100000 by omega), _, rfl, d, rfl, lg, _, _, rfl, rfl, sz_of (show (mkS (TL.joinL [32] (wI xs i)) ++ Str.ofString " " ++ p).length + (Str.ofString (toString d)).length ≤ 100000 by omega), ?_⟩
          refine ⟨some (.str p), some (.int d), ?_, e5, h5⟩
          have es : (mkS (TL.joinL [32] (wI xs i)) ++ Str.ofString " " ++ p) ++ Str.ofString (toString d) = mkS (TL.joinL [32] (wI xs (i + 1))) := by
            apply TL.ext_tl
            rw [wn, joinL_snoc, if_neg hw, TL.tl_append, TL.tl_append, TL.tl_append, dig_str bd, bl_tl, tl_mkS, tl_mkS]
            simp [List.append_assoc]
          show [_, _, _, _, some (V.str ((mkS (TL.joinL [32] (wI xs i)) ++ Str.ofString " " ++ p) ++ Str.ofString (toString d))), _, _, _] = _
          rw [es]
      · have c' : ¬ 0 < d := of_decide_eq_false (Bool.eq_false_iff.mpr c)
        rw [if_neg c', List.append_nil] at wn
        refine ⟨some (.str p), some (.int d), ?_, e5, h5⟩
        rw [wn]
        rfl
    · rintro σ' H4 ⟨x5, x6, rfl, e4, _⟩
      have ew : wI xs (plS.map V.str).length = wZ plC xs := wI_all E3
      rw [ew]
      refine ⟨fun σ' H' => σ' = [some (.ref a), some (.ref p3), some (.int (c1 % 8)), x3, some (.str (mkS (showL xs))), x5, x6, none] ∧ H' = H4, ?_, ?_⟩
      · refine ⟨_, rfl, rfl, _, rfl, ?_⟩
        rw [dec_str, emp_tl, tl_mkS]
        have ne : ∀ w ∈ wZ plC xs, w ≠ [] := by
          rw [← wI_all E3]
          exact wI_ne xs 6
        by_cases c : wZ plC xs = []
        · rw [decide_eq_true ((joinL_nil ne).mpr c)]
          refine iteT ⟨?_, rfl⟩
          have en : mkS (showL xs) = Str.ofString "none" := by
            apply TL.ext_tl
            rw [none_tl, tl_mkS]
            unfold showL
            rw [if_pos c]
          rw [en]
          rfl
        · rw [decide_eq_false (fun z => c ((joinL_nil ne).mp z))]
          refine iteF ⟨?_, rfl⟩
          have en : showL xs = TL.joinL [32] (wZ plC xs) := by
            unfold showL
            rw [if_neg c]
          rw [en]
      rintro σ' H' ⟨rfl, rfl⟩
      refine ⟨_, rfl, p3, xs, rfl, hx e4, E3, fun H5 e5 => ⟨_, rfl, _, _, rfl, Lk.str rfl, fun H6 e6 => ⟨true, rfl, iteT ?_⟩⟩⟩
      have ls : (mkS (showL xs)).length ≤ 5000 := by
        rw [TL.len_tl, tl_mkS]
        unfold showL
        split
        · decide
        · rw [← wI_all E3]
          have := wI_len xs 6
          omega
      refine ⟨_, rfl, mkS (showL xs), rfl, ls, fun ys hy p7 H7 e7 h7 => ?_, fun hn => ?_⟩
      · rw [tl_mkS, read_show E3] at hy
        cases hy
        exact ⟨_, rfl, _, _, rfl, Lk.ints h7 (hx (((e4.trans e5).trans e6).trans e7)) rfl (by rw [E3.1]; decide), fun H8 _ => q H8⟩
      · rw [tl_mkS, read_show E3] at hn
        cases hn
end
theorem all_mk {l : PySem.W.OpenLaw} {w : World} {K : PySem.W.Frag} {h : Heap} {mg : Str → Option Value} {fa f0 f1 f2 f3 f4 f5 f6 f7 f8 f9 : Addr} (X : K.In h) (G : h.Ns mainGlobals mg) (hfa : mg "law" = some (.ref fa))
    {od0 an0 od1 an1 od2 an2 od3 an3 od4 an4 od5 an5 od6 an6 od7 an7 od8 an8 od9 an9 : Option Addr} {sl0 sl1 sl2 sl3 sl4 sl5 sl6 sl7 sl8 sl9 : Array (Option Value)} {oc0 kV0 dc0 pm0 cd0 ct0 oc1 kV1 dc1 pm1 cd1 ct1 oc2 kV2 dc2 pm2 cd2 ct2 oc3 kV3 dc3 pm3 cd3 ct3 oc4 kV4 dc4 pm4 cd4 ct4 oc5 kV5 dc5 pm5 cd5 ct5 oc6 kV6 dc6 pm6 cd6 ct6 oc7 kV7 dc7 pm7 cd7 ct7 oc8 kV8 dc8 pm8 cd8 ct8 oc9 kV9 dc9 pm9 cd9 ct9 : Value}
    (a0 : PySem.W.nsIn K mainGlobals "_law_row" = some (some (.ref f0))) (l0 : K.lookup f0 = some ⟨oc0, od0, .func (PySem.W.fnOf "_law_row" "_law_row" (defArgs s_row) (defBody s_row) (defScope s_row) .none kV0 dc0 pm0 an0 cd0 ct0), sl0⟩) (c0 : PySem.W.codeIn K cd0 "_law_row" = true) (k0 : PySem.W.keepIn K (.ref f0) = true)
    (a1 : PySem.W.nsIn K mainGlobals "_law_ear_by" = some (some (.ref f1))) (l1 : K.lookup f1 = some ⟨oc1, od1, .func (PySem.W.fnOf "_law_ear_by" "_law_ear_by" (defArgs s_ear_by) (defBody s_ear_by) (defScope s_ear_by) .none kV1 dc1 pm1 an1 cd1 ct1), sl1⟩) (c1 : PySem.W.codeIn K cd1 "_law_ear_by" = true) (k1 : PySem.W.keepIn K (.ref f1) = true)
    (a2 : PySem.W.nsIn K mainGlobals "_law_ear" = some (some (.ref f2))) (l2 : K.lookup f2 = some ⟨oc2, od2, .func (PySem.W.fnOf "_law_ear" "_law_ear" (defArgs s_ear) (defBody s_ear) (defScope s_ear) .none kV2 dc2 pm2 an2 cd2 ct2), sl2⟩) (c2 : PySem.W.codeIn K cd2 "_law_ear" = true) (k2 : PySem.W.keepIn K (.ref f2) = true)
    (a3 : PySem.W.nsIn K mainGlobals "_law_cell" = some (some (.ref f3))) (l3 : K.lookup f3 = some ⟨oc3, od3, .func (PySem.W.fnOf "_law_cell" "_law_cell" (defArgs s_cell) (defBody s_cell) (defScope s_cell) .none kV3 dc3 pm3 an3 cd3 ct3), sl3⟩) (c3 : PySem.W.codeIn K cd3 "_law_cell" = true) (k3 : PySem.W.keepIn K (.ref f3) = true)
    (a4 : PySem.W.nsIn K mainGlobals "_law_whole" = some (some (.ref f4))) (l4 : K.lookup f4 = some ⟨oc4, od4, .func (PySem.W.fnOf "_law_whole" "_law_whole" (defArgs s_whole) (defBody s_whole) (defScope s_whole) .none kV4 dc4 pm4 an4 cd4 ct4), sl4⟩) (c4 : PySem.W.codeIn K cd4 "_law_whole" = true) (k4 : PySem.W.keepIn K (.ref f4) = true)
    (a5 : PySem.W.nsIn K mainGlobals "_law_like" = some (some (.ref f5))) (l5 : K.lookup f5 = some ⟨oc5, od5, .func (PySem.W.fnOf "_law_like" "_law_like" (defArgs s_like) (defBody s_like) (defScope s_like) .none kV5 dc5 pm5 an5 cd5 ct5), sl5⟩) (c5 : PySem.W.codeIn K cd5 "_law_like" = true) (k5 : PySem.W.keepIn K (.ref f5) = true)
    (a6 : PySem.W.nsIn K mainGlobals "shown" = some (some (.ref f6))) (l6 : K.lookup f6 = some ⟨oc6, od6, .func (PySem.W.fnOf "shown" "shown" (defArgs s_shown) (defBody s_shown) (defScope s_shown) .none kV6 dc6 pm6 an6 cd6 ct6), sl6⟩) (c6 : PySem.W.codeIn K cd6 "shown" = true) (k6 : PySem.W.keepIn K (.ref f6) = true)
    (a7 : PySem.W.nsIn K mainGlobals "read_cut" = some (some (.ref f7))) (l7 : K.lookup f7 = some ⟨oc7, od7, .func (PySem.W.fnOf "read_cut" "read_cut" (defArgs s_read_cut) (defBody s_read_cut) (defScope s_read_cut) .none kV7 dc7 pm7 an7 cd7 ct7), sl7⟩) (c7 : PySem.W.codeIn K cd7 "read_cut" = true) (k7 : PySem.W.keepIn K (.ref f7) = true)
    (a8 : PySem.W.nsIn K mainGlobals "read_ear" = some (some (.ref f8))) (l8 : K.lookup f8 = some ⟨oc8, od8, .func (PySem.W.fnOf "read_ear" "read_ear" (defArgs s_read_ear) (defBody s_read_ear) (defScope s_read_ear) .none kV8 dc8 pm8 an8 cd8 ct8), sl8⟩) (c8 : PySem.W.codeIn K cd8 "read_ear" = true) (k8 : PySem.W.keepIn K (.ref f8) = true)
    (a9 : PySem.W.nsIn K mainGlobals "law" = some (some (.ref f9))) (l9 : K.lookup f9 = some ⟨oc9, od9, .func (PySem.W.fnOf "law" "law" (defArgs s_law) (defBody s_law) (defScope s_law) .none kV9 dc9 pm9 an9 cd9 ct9), sl9⟩) (c9 : PySem.W.codeIn K cd9 "law" = true) (k9 : PySem.W.keepIn K (.ref f9) = true)
    (z_abs : PySem.W.nsIn K mainGlobals "abs" = some none)
    (z_range : PySem.W.nsIn K mainGlobals "range" = some none)
    (z_tuple : PySem.W.nsIn K mainGlobals "tuple" = some none)
    (z_max : PySem.W.nsIn K mainGlobals "max" = some none)
    (z_len : PySem.W.nsIn K mainGlobals "len" = some none)
    (z_isinstance : PySem.W.nsIn K mainGlobals "isinstance" = some none)
    (z_bool : PySem.W.nsIn K mainGlobals "bool" = some none)
    (z_int : PySem.W.nsIn K mainGlobals "int" = some none)
    (z_str : PySem.W.nsIn K mainGlobals "str" = some none)
    (z_list : PySem.W.nsIn K mainGlobals "list" = some none)
    (z_zip : PySem.W.nsIn K mainGlobals "zip" = some none)
    {p_PLACES : Addr} {oo_PLACES : Obj} {it_PLACES : Array Value} {nn_PLACES : Nat} (u_PLACES : PySem.W.nsIn K mainGlobals "PLACES" = some (some (.ref p_PLACES))) (w_PLACES : K.lookup p_PLACES = some oo_PLACES) (x_PLACES : oo_PLACES.cls = .type "tuple") (y_PLACES : oo_PLACES.data = .seq it_PLACES nn_PLACES) (v_PLACES : it_PLACES.size ≤ sizeLine) (r_PLACES : Vals [.str "lt", .str "lf", .str "lh", .str "rt", .str "rf", .str "rh"] it_PLACES.toList) (v2_PLACES : oo_PLACES.dict = none)
    {tk_BARE_WORD : Tok} (u_BARE_WORD : PySem.W.nsIn K mainGlobals "BARE_WORD" = some (some (.str "none" tk_BARE_WORD)))
    {tk_FIGURES : Tok} (u_FIGURES : PySem.W.nsIn K mainGlobals "FIGURES" = some (some (.str "123456789" tk_FIGURES)))
    {p_BARE_EAR : Addr} {oo_BARE_EAR : Obj} {it_BARE_EAR : Array Value} {nn_BARE_EAR : Nat} (u_BARE_EAR : PySem.W.nsIn K mainGlobals "BARE_EAR" = some (some (.ref p_BARE_EAR))) (w_BARE_EAR : K.lookup p_BARE_EAR = some oo_BARE_EAR) (x_BARE_EAR : oo_BARE_EAR.cls = .type "tuple") (y_BARE_EAR : oo_BARE_EAR.data = .seq it_BARE_EAR nn_BARE_EAR) (v_BARE_EAR : it_BARE_EAR.size ≤ sizeLine) (r_BARE_EAR : Vals [.int 0, .int 0, .int 0, .int 0, .int 0, .int 0] it_BARE_EAR.toList) (v2_BARE_EAR : oo_BARE_EAR.dict = none)
    {cc_BadEar : Addr} (u_BadEar : PySem.W.nsIn K mainGlobals "BadEar" = some (some (.ref cc_BadEar))) (xc_BadEar : PySem.W.excIn K cc_BadEar [.type "ValueError", .type "Exception", .type "BaseException", .type "object"] "ValueError.__new__" = true) (kc_BadEar : PySem.W.keepIn K (.ref cc_BadEar) = true) (bc_BadEar : PySem.W.subIn K (.ref cc_BadEar) (.type "BaseException") = some true) (tc_BadEar : PySem.W.typeIn K (.ref cc_BadEar) = some (.type "type")) (ic_BadEar : PySem.W.isClsIn K cc_BadEar = true) (sc_BadEar : PySem.W.subIn K (.ref cc_BadEar) (.ref cc_BadEar) = some true)
    : ∃ fd : FuncData, (∀ (s : Shared) (v : Value), BindsTo s fd ⟨[v], []⟩ [("_law_script", v)]) ∧ ∀ base : Heap, K.In base → base.Ns mainGlobals mg → FnOk l.prog w K mg base CX0 4 fa fd ["_law_script"] (sp_law K) := by
  have e := hfa.symm.trans (PySem.W.mg_of X G a9)
  cases e
  have F0 := fun_mk (st := s_row) l0 c0 k0
  have b0 := F0.binds (ps := ["_law_cell_here", "_law_many", "_law_base"]) fun _ _ _ _ _ _ us hl => match us, hl with | [_, _, _], _ => rfl
  have F1 := fun_mk (st := s_ear_by) l1 c1 k1
  have b1 := F1.binds (ps := ["_law_figures", "_law_mode"]) fun _ _ _ _ _ _ us hl => match us, hl with | [_, _], _ => rfl
  have F2 := fun_mk (st := s_ear) l2 c2 k2
  have b2 := F2.binds (ps := ["_law_cell_here"]) fun _ _ _ _ _ _ us hl => match us, hl with | [_], _ => rfl
  have F3 := fun_mk (st := s_cell) l3 c3 k3
  have b3 := F3.binds (ps := ["_law_script", "_law_k"]) fun _ _ _ _ _ _ us hl => match us, hl with | [_, _], _ => rfl
  have F4 := fun_mk (st := s_whole) l4 c4 k4
  have b4 := F4.binds (ps := ["_law_found"]) fun _ _ _ _ _ _ us hl => match us, hl with | [_], _ => rfl
  have F5 := fun_mk (st := s_like) l5 c5 k5
  have b5 := F5.binds (ps := ["_law_found", "_law_due"]) fun _ _ _ _ _ _ us hl => match us, hl with | [_, _], _ => rfl
  have F6 := fun_mk (st := s_shown) l6 c6 k6
  have b6 := F6.binds (ps := ["ear"]) fun _ _ _ _ _ _ us hl => match us, hl with | [_], _ => rfl
  have F7 := fun_mk (st := s_read_cut) l7 c7 k7
  have b7 := F7.binds (ps := ["word"]) fun _ _ _ _ _ _ us hl => match us, hl with | [_], _ => rfl
  have F8 := fun_mk (st := s_read_ear) l8 c8 k8
  have b8 := F8.binds (ps := ["text"]) fun _ _ _ _ _ _ us hl => match us, hl with | [_], _ => rfl
  have F9 := fun_mk (st := s_law) l9 c9 k9
  have b9 := F9.binds (ps := ["_law_script"]) fun _ _ _ _ _ _ us hl => match us, hl with | [_], _ => rfl

  let T : Txt K mg := { f_row := _, fd_row := _, F_row := F0, b_row := b0, g_row := PySem.W.mg_of X G a0, f_ear_by := _, fd_ear_by := _, F_ear_by := F1, b_ear_by := b1, g_ear_by := PySem.W.mg_of X G a1, f_ear := _, fd_ear := _, F_ear := F2, b_ear := b2, g_ear := PySem.W.mg_of X G a2, f_cell := _, fd_cell := _, F_cell := F3, b_cell := b3, g_cell := PySem.W.mg_of X G a3, f_whole := _, fd_whole := _, F_whole := F4, b_whole := b4, g_whole := PySem.W.mg_of X G a4, f_like := _, fd_like := _, F_like := F5, b_like := b5, g_like := PySem.W.mg_of X G a5, f_shown := _, fd_shown := _, F_shown := F6, b_shown := b6, g_shown := PySem.W.mg_of X G a6, f_read_cut := _, fd_read_cut := _, F_read_cut := F7, b_read_cut := b7, g_read_cut := PySem.W.mg_of X G a7, f_read_ear := _, fd_read_ear := _, F_read_ear := F8, b_read_ear := b8, g_read_ear := PySem.W.mg_of X G a8, f_law := _, fd_law := _, F_law := F9, b_law := b9, g_law := PySem.W.mg_of X G a9, m_abs := PySem.W.mg_none_of X G z_abs, m_range := PySem.W.mg_none_of X G z_range, m_tuple := PySem.W.mg_none_of X G z_tuple, m_max := PySem.W.mg_none_of X G z_max, m_len := PySem.W.mg_none_of X G z_len, m_isinstance := PySem.W.mg_none_of X G z_isinstance, m_bool := PySem.W.mg_none_of X G z_bool, m_int := PySem.W.mg_none_of X G z_int, m_str := PySem.W.mg_none_of X G z_str, m_list := PySem.W.mg_none_of X G z_list, m_zip := PySem.W.mg_none_of X G z_zip, a_PLACES := _, g_PLACES := PySem.W.mg_of X G u_PLACES, q_PLACES := fun _ => Or.inr ⟨_, _, _, w_PLACES, x_PLACES, y_PLACES, v_PLACES, r_PLACES⟩, y_PLACES := ⟨_, w_PLACES, x_PLACES, v2_PLACES⟩, t_BARE_WORD := _, g_BARE_WORD := PySem.W.mg_of X G u_BARE_WORD, t_FIGURES := _, g_FIGURES := PySem.W.mg_of X G u_FIGURES, a_BARE_EAR := _, g_BARE_EAR := PySem.W.mg_of X G u_BARE_EAR, q_BARE_EAR := fun _ => Or.inr ⟨_, _, _, w_BARE_EAR, x_BARE_EAR, y_BARE_EAR, v_BARE_EAR, r_BARE_EAR⟩, y_BARE_EAR := ⟨_, w_BARE_EAR, x_BARE_EAR, v2_BARE_EAR⟩, C_BadEar := _, g_BadEar := PySem.W.mg_of X G u_BadEar, x_BadEar := xc_BadEar, k_BadEar := kc_BadEar, b_BadEar := bc_BadEar, t_BadEar := tc_BadEar, e_BadEar := exm_one bc_BadEar ic_BadEar tc_BadEar sc_BadEar }
  exact ⟨_, fun s v => .of_eq rfl, fun base _ _ => ok_law T⟩
end Ear
open PySem PySem.W PyProof.Rows
set_option maxHeartbeats 0 in
theorem PySem.Challenge.cw_earmarks_k04_ears_written_holds : PySem.Challenge.rw_earmarks_k04_ears_written.Holds := by
  w_on; o_law; k_head; (case hw => w_witness2)
  k_fill
  refine L2.walk_of (l := PySem.Challenge.rw_earmarks_k04_ears_written) (n := 63) (k := 4) (x := "_law_script") (CX := fun _ => L2.CX0) (sp := fun w => Ear.sp_law _) rfl (by decide) rfl ⟨rfl, by decide, by decide⟩ (fun w h Y => PySem.W.kIn_of Y) ?F (fun _ _ a ns hl _ hS => ⟨a, ns, rfl, hS, hl, fun _ => rfl⟩) (fun _ _ _ _ _ h => h)
  case F =>
    intro w mg fa h KX G hmg
    refine' Ear.all_mk KX G hmg ?a0 ?l0 ?c0 ?k0 ?a1 ?l1 ?c1 ?k1 ?a2 ?l2 ?c2 ?k2 ?a3 ?l3 ?c3 ?k3 ?a4 ?l4 ?c4 ?k4 ?a5 ?l5 ?c5 ?k5 ?a6 ?l6 ?c6 ?k6 ?a7 ?l7 ?c7 ?k7 ?a8 ?l8 ?c8 ?k8 ?a9 ?l9 ?c9 ?k9 ?z_abs ?z_range ?z_tuple ?z_max ?z_len ?z_isinstance ?z_bool ?z_int ?z_str ?z_list ?z_zip ?u_PLACES ?w_PLACES ?x_PLACES ?y_PLACES ?v_PLACES ?r_PLACES ?v2_PLACES ?u_BARE_WORD ?u_FIGURES ?u_BARE_EAR ?w_BARE_EAR ?x_BARE_EAR ?y_BARE_EAR ?v_BARE_EAR ?r_BARE_EAR ?v2_BARE_EAR ?u_BadEar ?xc_BadEar ?kc_BadEar ?bc_BadEar ?tc_BadEar ?ic_BadEar ?sc_BadEar
    (case a0 => k_is)
    (case l0 => k_is)
    (case c0 => k_is)
    (case k0 => k_is)
    (case a1 => k_is)
    (case l1 => k_is)
    (case c1 => k_is)
    (case k1 => k_is)
    (case a2 => k_is)
    (case l2 => k_is)
    (case c2 => k_is)
    (case k2 => k_is)
    (case a3 => k_is)
    (case l3 => k_is)
    (case c3 => k_is)
    (case k3 => k_is)
    (case a4 => k_is)
    (case l4 => k_is)
    (case c4 => k_is)
    (case k4 => k_is)
    (case a5 => k_is)
    (case l5 => k_is)
    (case c5 => k_is)
    (case k5 => k_is)
    (case a6 => k_is)
    (case l6 => k_is)
    (case c6 => k_is)
    (case k6 => k_is)
    (case a7 => k_is)
    (case l7 => k_is)
    (case c7 => k_is)
    (case k7 => k_is)
    (case a8 => k_is)
    (case l8 => k_is)
    (case c8 => k_is)
    (case k8 => k_is)
    (case a9 => k_is)
    (case l9 => k_is)
    (case c9 => k_is)
    (case k9 => k_is)
    (case z_abs => k_is)
    (case z_range => k_is)
    (case z_tuple => k_is)
    (case z_max => k_is)
    (case z_len => k_is)
    (case z_isinstance => k_is)
    (case z_bool => k_is)
    (case z_int => k_is)
    (case z_str => k_is)
    (case z_list => k_is)
    (case z_zip => k_is)
    (case u_PLACES => k_is)
    (case w_PLACES => k_is)
    (case x_PLACES => first | rfl | decide | exact .nil | (repeat' first | exact ⟨_, rfl⟩ | constructor))
    (case y_PLACES => first | rfl | decide | exact .nil | (repeat' first | exact ⟨_, rfl⟩ | constructor))
    (case v_PLACES => first | rfl | decide | exact .nil | (repeat' first | exact ⟨_, rfl⟩ | constructor))
    (case r_PLACES => first | rfl | decide | exact .nil | (repeat' first | exact ⟨_, rfl⟩ | constructor))
    (case v2_PLACES => rfl)
    (case u_BARE_WORD => k_is)
    (case u_FIGURES => k_is)
    (case u_BARE_EAR => k_is)
    (case w_BARE_EAR => k_is)
    (case x_BARE_EAR => first | rfl | decide | exact .nil | (repeat' first | exact ⟨_, rfl⟩ | constructor))
    (case y_BARE_EAR => first | rfl | decide | exact .nil | (repeat' first | exact ⟨_, rfl⟩ | constructor))
    (case v_BARE_EAR => first | rfl | decide | exact .nil | (repeat' first | exact ⟨_, rfl⟩ | constructor))
    (case r_BARE_EAR => first | rfl | decide | exact .nil | (repeat' first | exact ⟨_, rfl⟩ | constructor))
    (case v2_BARE_EAR => rfl)
    (case u_BadEar => k_is)
    (case xc_BadEar => k_exc)
    (case kc_BadEar => k_is)
    (case bc_BadEar => k_is)
    (case tc_BadEar => k_is)
    (case ic_BadEar => k_is)
    (case sc_BadEar => first | rfl | k_is)

/- Items one by one: what a row of items reads; the law's items; items held against each other. -/
import Derived.Test.YtjdgfhgpbhjcpaaDecWhole
import Derived.Laws.StructEq
import Derived.Deep.QuietTactic
import Derived.BigQuiet
set_option linter.unusedVariables false
set_option linter.unusedSimpArgs false
namespace Go.Proofs.Ytjdgfhgpbhjcpaa
open Go.RowKit De

theorem eqlI (a b c a' b' c' : Int) (d e d' e' : Bool) (w : World) : (binOp .eql 36 (.agg #[.int .i32 a, .int .i64 b, .int .i64 c, .bool d, .bool e]) (.agg #[.int .i32 a', .int .i64 b', .int .i64 c', .bool d', .bool e'])).run Try.prog w =
    .ok (.bool (a == a' && (b == b' && (c == c' && (d == d' && e == e'))))) w := by
  have u1 := Try.underlying21
  have u2 := Try.underlying3
  have u3 := Try.underlying4
  have hS : Try.prog.underlying 36 = some (.struct (Try.prog.fieldsOf 36)) := by kernel_rfl
  have hp : Try.prog.stoodInHeld 36 = false := by kernel_rfl
  rw [run_eql_struct, show (10000 : Nat) = 9999 + 1 from rfl, run_equalIn_agg w 9999 36 _ _ hS hp]
  simp only [Program.fieldsOf, Try.underlying36]
  go_simp
  by_cases h1 : a = a' <;> by_cases h2 : b = b' <;> by_cases h3 : c = c' <;> by_cases h4 : d = d' <;> by_cases h5 : e = e' <;> simp [h1, h2, h3, h4, h5]
theorem neqI (a b c a' b' c' : Int) (d e d' e' : Bool) (w : World) : (binOp .neq 36 (.agg #[.int .i32 a, .int .i64 b, .int .i64 c, .bool d, .bool e]) (.agg #[.int .i32 a', .int .i64 b', .int .i64 c', .bool d', .bool e'])).run Try.prog w =
    .ok (.bool (!(a == a' && (b == b' && (c == c' && (d == d' && e == e')))))) w := by
  have u1 := Try.underlying21
  have u2 := Try.underlying3
  have u3 := Try.underlying4
  have hS : Try.prog.underlying 36 = some (.struct (Try.prog.fieldsOf 36)) := by kernel_rfl
  have hp : Try.prog.stoodInHeld 36 = false := by kernel_rfl
  rw [run_neq_struct, show (10000 : Nat) = 9999 + 1 from rfl, run_equalIn_agg w 9999 36 _ _ hS hp]
  simp only [Program.fieldsOf, Try.underlying36]
  go_simp
  by_cases h1 : a = a' <;> by_cases h2 : b = b' <;> by_cases h3 : c = c' <;> by_cases h4 : d = d' <;> by_cases h5 : e = e' <;> simp [h1, h2, h3, h4, h5]
theorem neqI_same (a b c : Int) (d e : Bool) (w : World) : (binOp .neq 36 (.agg #[.int .i32 a, .int .i64 b, .int .i64 c, .bool d, .bool e]) (.agg #[.int .i32 a, .int .i64 b, .int .i64 c, .bool d, .bool e])).run Try.prog w = .ok (.bool false) w := by
  rw [neqI]; simp
theorem guardI (op : BinOp) (x y : Operand) (a b c a' b' c' : Int) (d e d' e' : Bool) (w : World) : (eqGuard op 36 x y (.agg #[.int .i32 a, .int .i64 b, .int .i64 c, .bool d, .bool e]) (.agg #[.int .i32 a', .int .i64 b', .int .i64 c', .bool d', .bool e'])).run Try.prog w = .ok () w :=
  run_eqGuard_agg w op _ x y _ _ (by kernel_rfl)

theorem itsc_get (L : List (Nat × It)) : ∀ (k i : Nat) (p : Nat × It), L[k]? = some p → i < 5 → (itsc L)[k * 5 + i]? = (itc p.1 p.2)[i]? := by
  induction L with
  | nil => intro k i p h; simp at h
  | cons q L ih =>
    intro k i p h hi
    have e : itsc (q :: L) = itc q.1 q.2 ++ itsc L := by simp [itsc]
    have hl : (itc (q.1 : Nat) q.2).length = 5 := by simp [itc]
    rw [e]
    cases k with
    | zero =>
      simp at h
      subst h
      rw [List.getElem?_append_left (by omega)]
      simp
    | succ k =>
      rw [List.getElem?_append_right (by omega)]
      have := ih k i p (by simpa using h) hi
      rw [← this]
      congr 1; omega
/-- the cells of an item of a row -/
theorem Row.item {w : World} {v : Value} {L : List (Nat × It)} (h : Row w v L.length (itsc L)) {k : Nat} {p : Nat × It} (hk : L[k]? = some p) :
    ∃ b off cap, v = .slice (some ⟨b, off, none⟩) L.length cap ∧ b < w.heap.size ∧
      w.cell? ⟨b, off + k * 5, none⟩ = some (.int .i32 p.2.r) ∧ w.cell? ⟨b, off + k * 5 + 1, none⟩ = some (.int .i64 p.1) ∧ w.cell? ⟨b, off + k * 5 + 2, none⟩ = some (.int .i64 ((p.1 : Int) + p.2.n)) ∧
      w.cell? ⟨b, off + k * 5 + 3, none⟩ = some (.bool p.2.bad) ∧ w.cell? ⟨b, off + k * 5 + 4, none⟩ = some (.bool p.2.more) := by
  have hlt : k < L.length := (List.getElem?_eq_some_iff.1 hk).1
  obtain ⟨o, cap, rfl, h1, h2, h3⟩ := h
  rcases h3 with ⟨h0, _⟩ | ⟨b, off, rfl, hb, hc⟩
  · omega
  have g := fun i hi => itsc_get L k i p hk hi
  refine ⟨b, off, cap, rfl, hb, ?_, ?_, ?_, ?_, ?_⟩
  · have := hc (k * 5 + 0) (.int .i32 p.2.r) (by rw [g 0 (by omega)]; rfl); simpa [Nat.add_assoc] using this
  · have := hc (k * 5 + 1) (.int .i64 p.1) (by rw [g 1 (by omega)]; rfl); simpa [Nat.add_assoc] using this
  · have := hc (k * 5 + 2) (.int .i64 ((p.1 : Int) + p.2.n)) (by rw [g 2 (by omega)]; rfl); simpa [Nat.add_assoc] using this
  · have := hc (k * 5 + 3) (.bool p.2.bad) (by rw [g 3 (by omega)]; rfl); simpa [Nat.add_assoc] using this
  · have := hc (k * 5 + 4) (.bool p.2.more) (by rw [g 4 (by omega)]; rfl); simpa [Nat.add_assoc] using this

set_option maxHeartbeats 2000000 in
set_option maxRecDepth 1000000 in
theorem items_same (L : List (Nat × It)) (va vb : Value) (w : World) (ha : Row w va L.length (itsc L)) (hb : Row w vb L.length (itsc L)) (hn : L.length ≤ 1000000) :
    Calls Try.prog 10 #[va, vb] w fun e w' => e = .returned (.bool true) ∧ Below w.heap.size w w' := by
  have HA := Lib.hid ha
  have HB := Lib.hid hb
  obtain ⟨oa, ca, rfl, _, hma, _⟩ := ha
  obtain ⟨ob, cb, rfl, _, hmb, _⟩ := hb
  have hl : ((L.length : Int) != (L.length : Int)) = false := by simp
  go_enter Try.func10, Try.ntmps10
  go_wp2_with fail
  go_loopw [5] (fun i wr => ∃ k : Nat, k ≤ L.length ∧ i = .int .i64 k ∧ Below w.heap.size w wr) (fun i _ => L.length - (intOf i).toNat)
  case atStart => exact ⟨0, Nat.zero_le _, rfl, Below.refl _ _⟩
  case round =>
    obtain ⟨k, hk, rfl, hbel⟩ := hrel
    by_cases hkt : k < L.length
    · obtain ⟨p, hp⟩ : ∃ p, L[k]? = some p := ⟨L[k], List.getElem?_eq_getElem hkt⟩
      obtain ⟨b1, o1, c1, e1, hb1, a0, a1, a2, a3, a4⟩ := (HA.out.below hbel).item hp
      obtain ⟨b2, o2, c2, e2, hb2, d0, d1, d2, d3, d4⟩ := (HB.out.below hbel).item hp
      simp only [Value.slice.injEq, true_and] at e1 e2
      obtain ⟨rfl, rfl⟩ := e1
      obtain ⟨rfl, rfl⟩ := e2
      obtain ⟨pf, r, n, bad, more, opn⟩ := p
      simp only at a0 a1 a2 a3 a4 d0 d1 d2 d3 d4
      have HP := Lib.hid hp
      have hne := neqI_same r pf ((pf : Int) + n) bad more
      have hgu := fun op x y (w : World) => guardI op x y r pf ((pf : Int) + n) r pf ((pf : Int) + n) bad more bad more w
      have i1 : (0 : Int) ≤ (k : Int) := by omega
      have i2 : (k : Int) < (L.length : Int) := by omega
      clear hp
      go_wp2_with fail
      go_quiet (fail)
      go_wp2_with fail
      go_roundw
      case rel => exact ⟨k + 1, by omega, by go_num, by repeat (first | exact Below.refl _ _ | assumption | (refine Below.drew ?_) | (refine below_drewN ?_ _) | (refine bel_new ?_ _) | (refine bel_then ?_ (by assumption)))⟩
      case measure => simp [intOf] <;> omega
    · have hkn : k = L.length := by omega
      subst hkn
      go_wp2_with fail
      go_ret
      exact ⟨rfl, hbel⟩
end Go.Proofs.Ytjdgfhgpbhjcpaa

/- goboref11.E: the document's reader of a class: peek, fail, take, among. -/
import Derived.Test.YtkngppkchaadhaaClsG
import Derived.Test.YtkngppkchaadhaaRefSetsW
import Derived.Test.YtkngppkchaadhaaDecRef3W
set_option linter.unusedVariables false
set_option linter.unusedSimpArgs false
namespace Go.Proofs.Ytkngppkchaadhaa
open Go.RowKit De Wd

/-- block p is the document's reader: at the item k of L; b: what is wrong, wh: where -/
structure EI (w : World) (p : Nat) (L : Its) (k n : Nat) (v : Value) (b wh : Int) : Prop where
  hh : w.heap[p]? = some (.cells #[v, .int .i64 n, .int .i64 k, .int .i64 b, .int .i64 wh] 67 (0, 0))
  row : Row w v L.length (itsc L)
  far : ∀ b off cap, v = .slice (some ⟨b, off, none⟩) L.length cap → b ≠ p
  le : k ≤ L.length
  small : L.length ≤ 1000000
theorem cells5_of {w : World} {p : Nat} {a b c d e : Value} {t : TypeId} (h : w.heap[p]? = some (.cells #[a, b, c, d, e] t (0, 0))) :
    (w.cell? ⟨p, 0, none⟩ = some a ∧ w.cell? ⟨p, 1, none⟩ = some b ∧ w.cell? ⟨p, 2, none⟩ = some c ∧ w.cell? ⟨p, 3, none⟩ = some d ∧ w.cell? ⟨p, 4, none⟩ = some e) ∧
    w.frozen? ⟨p, 2, none⟩ = false ∧ w.frozen? ⟨p, 3, none⟩ = false ∧ w.frozen? ⟨p, 4, none⟩ = false := by
  simp [World.cell?, World.frozen?, h]
theorem EI.lt {w : World} {p k n : Nat} {L : Its} {v : Value} {b wh : Int} (h : EI w p L k n v b wh) : p < w.heap.size := hp_lt h.hh
theorem EI.moved {w w' : World} {p k n : Nat} {L : Its} {v : Value} {b wh : Int} (h : EI w p L k n v b wh) (hb : Below w.heap.size w w') : EI w' p L k n v b wh :=
  ⟨by rw [hb.block p h.lt]; exact h.hh, h.row.below hb, h.far, h.le, h.small⟩
theorem EI.drewN {w : World} {p k n : Nat} {L : Its} {v : Value} {b wh : Int} (h : EI w p L k n v b wh) (q : Nat) : EI (w.drewN q) p L k n v b wh :=
  h.moved ⟨rfl, rfl, rfl, Nat.le_refl _, fun _ _ => rfl⟩
theorem EI.rowset {w : World} {p k n i : Nat} {L : Its} {v x : Value} {b wh : Int} (h : EI w p L k n v b wh) : Row (w.setCell ⟨p, i, none⟩ x) v L.length (itsc L) := by
  obtain ⟨o, cap, rfl, h1, h2, h3⟩ := h.row
  refine ⟨o, cap, rfl, h1, h2, ?_⟩
  rcases h3 with h3 | ⟨bb, off, rfl, hb, hc⟩
  · exact .inl h3
  · refine .inr ⟨bb, off, rfl, by simpa [World.setCell] using hb, fun j u hu => ?_⟩
    have hne := h.far bb off cap rfl
    rw [← hc j u hu]
    unfold World.cell?
    rw [Below.heap_setCell _ _ _ _ hne]
theorem EI.drew {w : World} {p k n : Nat} {L : Its} {v : Value} {b wh : Int} (h : EI w p L k n v b wh) : EI w.drew p L k n v b wh := h.drewN 1
theorem EI.at {w : World} {p k n k' : Nat} {L : Its} {v : Value} {b wh : Int} (h : EI w p L k n v b wh) (hk : k' ≤ L.length) : EI (w.setCell ⟨p, 2, none⟩ (.int .i64 k')) p L k' n v b wh :=
  ⟨by have := h.hh; simp [World.setCell, Array.getElem?_modify, this], h.rowset, h.far, hk, h.small⟩
theorem EI.bad3 {w : World} {p k n : Nat} {L : Its} {v : Value} {b wh : Int} (h : EI w p L k n v b wh) (b' : Int) : EI (w.setCell ⟨p, 3, none⟩ (.int .i64 b')) p L k n v b' wh :=
  ⟨by have := h.hh; simp [World.setCell, Array.getElem?_modify, this], h.rowset, h.far, h.le, h.small⟩
theorem EI.bad4 {w : World} {p k n : Nat} {L : Its} {v : Value} {b wh : Int} (h : EI w p L k n v b wh) (wh' : Int) : EI (w.setCell ⟨p, 4, none⟩ (.int .i64 wh')) p L k n v b wh' :=
  ⟨by have := h.hh; simp [World.setCell, Array.getElem?_modify, this], h.rowset, h.far, h.le, h.small⟩
def pkb (b : Int) (L : Its) (k : Nat) : Int := if b = 0 then pk L k else -1

set_option maxHeartbeats 4000000 in
set_option maxRecDepth 100000 in
theorem rpeek_bad (p k n : Nat) (L : Its) (v : Value) (wh : Int) (w : World) (h : EI w p L k n v 3 wh) :
    Calls Try.prog 51 #[.pointer (some ⟨p, 0, none⟩)] w fun e w' => e = .returned (.int .i32 (-1)) ∧ ∃ q, w' = w.drewN q := by
  obtain ⟨⟨c0, c1, c2, c3, c4⟩, f2, f3, f4⟩ := cells5_of h.hh
  clear h
  go_enter Try.func51, Try.ntmps51
  go_wp2_with fail
  go_quiet (fail)
  go_wp2
  go_ret
  exact ⟨rfl, _, by first | rfl | exact drewN_two _ _ _⟩
set_option maxHeartbeats 4000000 in
set_option maxRecDepth 100000 in
theorem rpeek_any (p k n : Nat) (L : Its) (v : Value) (wh : Int) (w : World) (h : EI w p L k n v 0 wh) :
    Calls Try.prog 51 #[.pointer (some ⟨p, 0, none⟩)] w fun e w' => e = .returned (.int .i32 (pk L k)) ∧ ∃ q, w' = w.drewN q := by
  have hle := h.le
  obtain ⟨⟨c0, c1, c2, c3, c4⟩, f2, f3, f4⟩ := cells5_of h.hh
  by_cases hk : k < L.length
  · obtain ⟨q, hq⟩ : ∃ q, L[k]? = some q := ⟨L[k], List.getElem?_eq_getElem hk⟩
    obtain ⟨b1, f1', k1, rfl, hb1, a0, a1, a2, a3, a4⟩ := h.row.item hq
    have e1 : decide ((L.length : Int) ≤ (k : Int)) = false := by simp; omega
    have e2 : decide (L.length ≤ k) = false := by simp; omega
    have hii : (0 : Int) ≤ (k : Int) := by omega
    have hij : (k : Int) < (L.length : Int) := by omega
    cases hbad : q.2.bad with
    | true =>
      have hpk : pk L k = -1 := by unfold pk; rw [hq]; simp [hbad]
      rw [hbad] at a3
      have HP := Lib.hid hpk
      clear h hq hbad hpk
      go_enter Try.func51, Try.ntmps51
      go_wp2_with fail
      go_quiet (fail)
      go_wp2
      go_ret
      exact ⟨ret_i32 HP.out.symm, _, by first | rfl | exact drewN_two _ _ _⟩
    | false =>
      have hpk : pk L k = q.2.r := by unfold pk; rw [hq]; simp [hbad]
      rw [hbad] at a3
      have HP := Lib.hid hpk
      clear h hq hbad hpk
      go_enter Try.func51, Try.ntmps51
      go_wp2_with fail
      go_quiet (fail)
      go_wp2_with fail
      go_quiet (fail)
      go_wp2
      go_ret
      exact ⟨ret_i32 HP.out.symm, _, by first | rfl | exact drewN_two _ _ _⟩
  · have hpk := pk_end hk
    obtain ⟨o, cap, rfl, _⟩ := h.row
    have HP := Lib.hid hpk
    have e1 : decide ((L.length : Int) ≤ (k : Int)) = true := by simp; omega
    have e2 : decide (L.length ≤ k) = true := by simp; omega
    clear h hk hpk
    go_enter Try.func51, Try.ntmps51
    go_wp2_with fail
    go_quiet (fail)
    go_wp2
    go_ret
    exact ⟨ret_i32 HP.out.symm, _, by first | rfl | exact drewN_two _ _ _⟩
set_option maxHeartbeats 4000000 in
set_option maxRecDepth 100000 in
theorem rfail_any (p k n : Nat) (L : Its) (v : Value) (wh : Int) (w : World) (h : EI w p L k n v 0 wh) :
    Calls Try.prog 28 #[.pointer (some ⟨p, 0, none⟩), .int .i64 3] w fun e w' => e = .returned (.tuple #[]) ∧ EI w' p L k n v 3 (plc L n k) ∧ Ch w w' p := by
  have hle := h.le
  have H := Lib.hid h
  obtain ⟨⟨c0, c1, c2, c3, c4⟩, f2, f3, f4⟩ := cells5_of h.hh
  by_cases hk : k < L.length
  · obtain ⟨q, hq⟩ : ∃ q, L[k]? = some q := ⟨L[k], List.getElem?_eq_getElem hk⟩
    obtain ⟨b1, f1', k1, rfl, hb1, a0, a1, a2, a3, a4⟩ := h.row.item hq
    have e1 : decide ((k : Int) < (L.length : Int)) = true := by simp; omega
    have e2 : decide (k < L.length) = true := by simp; omega
    have hii : (0 : Int) ≤ (k : Int) := by omega
    have hij : (k : Int) < (L.length : Int) := by omega
    have hpk : plc L n k = q.1 := by unfold plc; rw [hq]
    have hbp : b1 ≠ p := h.far _ _ _ rfl
    have HP := Lib.hid hpk
    have HQ := Lib.hid hq
    clear h hq hpk
    go_enter Try.func28, Try.ntmps28
    go_wp2_with fail
    go_quiet (fail)
    have hE := ((H.out.bad3 3).bad4 n).drewN nq
    have hC := ((Ch.set w p 3 (.int .i64 3)).trans (Ch.set _ p 4 (.int .i64 n))).trans (Ch.drewN p nq)
    generalize (((w.setCell ⟨p, 3, none⟩ (.int .i64 3)).setCell ⟨p, 4, none⟩ (.int .i64 n)).drewN nq) = W at hE hC ⊢
    have HE := Lib.hid (And.intro hE hC)
    clear c0 c1 c2 c3 c4 f2 f3 f4 a0 a1 a2 a3 a4
    obtain ⟨⟨c0, c1, c2, c3, c4⟩, f2, f3, f4⟩ := cells5_of hE.hh
    have hq2 := HQ.out
    obtain ⟨b2, f2', k2, e, hb2, a0, a1, a2, a3, a4⟩ := hE.row.item hq2
    simp only [Value.slice.injEq, Option.some.injEq, Addr.mk.injEq, true_and, and_true] at e
    obtain ⟨⟨rfl, rfl⟩, rfl⟩ := e
    clear hE hC hq2
    go_wp2_with fail
    refine still_tail 14 (by kernel_rfl) (by kernel_rfl) ?_
    simp only [List.take_succ_cons, List.take_zero, List.drop_succ_cons, List.drop_zero]
    repeat still_step
    refine wpStill_nil ?_
    go_wp2
    go_end0
    obtain ⟨e3, c9⟩ := HE.out
    exact ⟨rfl, by rw [HP.out]; exact e3.drew.bad4 q.1, (c9.trans (Ch.drewN p 1)).trans (Ch.set _ p 4 _)⟩
  · have hpk : plc L n k = n := by unfold plc; rw [List.getElem?_eq_none (by omega)]
    obtain ⟨o, cap, rfl, _⟩ := h.row
    have HP := Lib.hid hpk
    have e1 : decide ((k : Int) < (L.length : Int)) = false := by simp; omega
    have e2 : decide (k < L.length) = false := by simp; omega
    clear h hk hpk
    go_enter Try.func28, Try.ntmps28
    go_wp2_with fail
    go_quiet (fail)
    go_wp2
    go_end0
    exact ⟨rfl, by rw [HP.out]; exact ((H.out.bad3 3).bad4 n).drewN _, ((Ch.set w p 3 _).trans (Ch.set _ p 4 _)).trans (Ch.drewN p _)⟩

set_option maxHeartbeats 4000000 in
set_option maxRecDepth 100000 in
theorem rtake_bad (p k n : Nat) (L : Its) (v : Value) (wh r : Int) (w : World) (h : EI w p L k n v 3 wh) (hr : 0 ≤ r) :
    Calls Try.prog 50 #[.pointer (some ⟨p, 0, none⟩), .int .i32 r] w fun e w' => e = .returned (.bool false) ∧ EI w' p L k n v 3 wh ∧ Ch w w' p := by
  have H := Lib.hid h
  have hne : ((-1 : Int) != r) = true := by simp; omega
  have hne2 : ¬ ((-1 : Int) = r) := by omega
  clear h
  go_enter Try.func50, Try.ntmps50
  go_wp2_with fail
  refine (rpeek_bad p k n L v wh _ H.out).mono ?_
  rintro e w1 ⟨rfl, q, rfl⟩
  go_wp2
  go_ret
  exact ⟨rfl, H.out.drewN q, Ch.drewN p q⟩
set_option maxHeartbeats 4000000 in
set_option maxRecDepth 100000 in
theorem rtake_any (p k n : Nat) (L : Its) (v : Value) (wh r : Int) (w : World) (h : EI w p L k n v 0 wh) (hr : 0 ≤ r) :
    Calls Try.prog 50 #[.pointer (some ⟨p, 0, none⟩), .int .i32 r] w fun e w' =>
      (pk L k = r ∧ e = .returned (.bool true) ∧ EI w' p L (k + 1) n v 0 wh ∧ Ch w w' p) ∨ (pk L k ≠ r ∧ e = .returned (.bool false) ∧ EI w' p L k n v 0 wh ∧ Ch w w' p) := by
  have H := Lib.hid h
  have hsm : k ≤ 1000000 := Nat.le_trans h.le h.small
  by_cases hpk : pk L k = r
  · have hne : (pk L k != r) = false := by simp [hpk]
    have hkl : k < L.length := pk_lt (L := L) (k := k) (by omega)
    have HP := Lib.hid hpk
    clear h hpk
    go_enter Try.func50, Try.ntmps50
    go_wp2_with fail
    refine (rpeek_any p k n L v wh _ H.out).mono ?_
    rintro e w1 ⟨rfl, q, rfl⟩
    obtain ⟨⟨c0, c1, c2, c3, c4⟩, f2, f3, f4⟩ := cells5_of (H.out.drewN q).hh
    go_wp2
    go_ret
    exact .inl ⟨HP.out, rfl, by simpa using (H.out.drewN q).at (k' := k + 1) (by omega), (Ch.drewN p q).trans (Ch.set _ p 2 _)⟩
  · have hne : (pk L k != r) = true := by simpa using hpk
    have HP := Lib.hid hpk
    clear h hpk
    go_enter Try.func50, Try.ntmps50
    go_wp2_with fail
    refine (rpeek_any p k n L v wh _ H.out).mono ?_
    rintro e w1 ⟨rfl, q, rfl⟩
    go_wp2
    go_ret
    exact .inr ⟨HP.out, rfl, H.out.drewN q, Ch.drewN p q⟩
set_option maxHeartbeats 4000000 in
set_option maxRecDepth 100000 in
theorem among_any (s : ByteArray) (r : Int) (w : World) (hs : s.size ≤ 100000) :
    Calls Try.prog 70 #[.string s, .int .i32 r] w fun e w' => e = .returned (.bool (decide (r ∈ sb s))) ∧ w = w' := by
  go_enter Try.func70, Try.ntmps70
  go_wp2_with fail
  go_loopg [5] s.size (fun g i wx => ∃ k : Nat, k + g = s.size ∧ i = .int .i64 k ∧ wx = w ∧ decide (r ∈ sb s) = decide (r ∈ (sb s).drop k))
  case atStart => exact ⟨0, by omega, rfl, rfl, rfl⟩
  case round =>
    obtain ⟨k, hkg, rfl, ew, hm⟩ := hrel
    have ew2 := ew.symm
    subst ew2
    have HM := Lib.hid hm
    clear ew hm
    cases gk with
    | zero =>
      obtain rfl : k = s.size := by omega
      have hd : decide ((s.size : Int) < (s.size : Int)) = false := by simp
      go_wp2
      go_ret
      exact ⟨by rw [HM.out, List.drop_eq_nil_of_le (by rw [sb_len]; omega)]; rfl, rfl⟩
    | succ g =>
      have hk : k < s.size := by omega
      have hd : decide ((k : Int) < (s.size : Int)) = true := by simp; omega
      have hk1 : (0 : Int) ≤ (k : Int) := by omega
      have hk2 : (k : Int) < (s.size : Int) := by omega
      have hk9 : (k : Int) ≤ 100000 := by omega
      have hdr := sb_drop s k hk
      obtain ⟨x, hx⟩ : ∃ x, s[k] = x := ⟨_, rfl⟩
      rw [hx] at hdr
      have hxb : x.toNat < 256 := x.toNat_lt
      by_cases he : (x.toNat : Int) = r
      · have t1 : ((x.toNat : Int) == r) = true := by simp [he]
        have HR := Lib.hid (show decide (r ∈ sb s) = true by rw [HM.out, hdr, ← he]; simp)
        clear he hdr
        go_wp2
        go_ret
        exact ⟨by rw [HR.out]; rfl, rfl⟩
      · have t1 : ((x.toNat : Int) == r) = false := by simpa using he
        have hmm : (r ∈ (x.toNat : Int) :: (sb s).drop (k + 1)) ↔ (r ∈ (sb s).drop (k + 1)) := by
          rw [List.mem_cons]
          exact ⟨fun h => h.elim (fun h => absurd h.symm he) id, .inr⟩
        have HR := Lib.hid (show decide (r ∈ sb s) = decide (r ∈ (sb s).drop (k + 1)) by rw [HM.out, hdr, decide_eq_decide]; exact hmm)
        clear he hdr hmm
        go_wp2
        go_roundg g
        case measure => omega
        case rel => exact ⟨k + 1, by omega, by go_num, rfl, HR.out⟩
end Go.Proofs.Ytkngppkchaadhaa

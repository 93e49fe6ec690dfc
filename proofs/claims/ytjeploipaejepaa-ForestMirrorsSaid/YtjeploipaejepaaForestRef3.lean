/- The reference's Deep; MaySyms. -/
import Derived.Test.YtjeploipaejepaaForestRef2
set_option linter.unusedVariables false
set_option linter.unusedSimpArgs false
namespace Go.Proofs.Ytjeploipaejepaa
open Go.RowKit Fo

theorem infoSym : ∃ i, Try.prog.info? 47 = some i ∧ i.zero = some (.agg #[.int .i64 0, .int .i64 0]) ∧ i.size = 2 ∧ i.bytes = 16 := info_parts (by kernel_rfl)
theorem elemSyms : Try.prog.elem 45 = 47 := by kernel_rfl
theorem undSyms : Try.prog.underlying 45 = some (.slice (Try.prog.elem 45)) := by rw [elemSyms]; exact Try.underlying45

theorem flat_take (l : List (Int × Int)) (i : Nat) : (flat l).take (i * 2) = flat (l.take i) := by
  induction l generalizing i with
  | nil => simp [flat]
  | cons p l ih =>
    cases i with
    | zero => simp [flat]
    | succ i =>
      have e1 : (i + 1) * 2 = i * 2 + 2 := by omega
      have e2 : flat (p :: l) = .int .i64 p.1 :: .int .i64 p.2 :: flat l := rfl
      rw [e1, e2]
      simp only [List.take_succ_cons]
      rw [ih i]; rfl
theorem open_take (l : List (Int × Int)) (i : Nat) (hi : i ≤ l.length) : (alone (l.take i) 1).length = (stk (kns l) i).length := by
  have hl : (l.take i).length = i := by simp; omega
  rw [alone_len, hl, alo_open, List.length_reverse]
  rw [(fo_congr (ks := kns (l.take i)) (ls := kns l) i fun j hj => ?_).1]
  simp [kns, List.getD, hj]
theorem Syms.cut {w : World} {v u : Value} {l : List (Int × Int)} {i : Nat} (hi : i ≤ l.length) (h : Row w u i ((flat l).take (i * 2))) : Syms w u (l.take i) := by
  unfold Syms
  have hl : (l.take i).length = i := by simp; omega
  rw [hl, ← flat_take]; exact h

set_option maxHeartbeats 1000000 in
set_option maxRecDepth 1000000 in
theorem refDeep_any (l : List (Int × Int)) (v : Value) (w : World) (hr : Syms w v l) (hn : l.length ≤ 100000) :
    Calls Try.prog 38 #[v] w fun e w' => e = .returned (.int .i64 (dp (kns l) l.length)) ∧ Below w.heap.size w w' := by
  obtain ⟨i0, hi, hz0, hz1, hz2⟩ := infoSym
  have hro := fun (i : Nat) (u : Value) (w : World) hr => refOpen_any (l.take i) u w hr (by simp; omega)
  obtain ⟨o, cap, rfl⟩ := hr.slice
  go_enter Try.func38, Try.ntmps38
  go_wp2_with fail
  go_loopw [3, 4] (fun m i wr => ∃ k : Nat, k ≤ l.length + 1 ∧ i = .int .i64 k ∧ m = .int .i64 (dp (kns l) (k - 1) : Nat) ∧ Below w.heap.size w wr)
    (fun _ i _ => l.length + 1 - (intOf i).toNat)
  case atStart => exact ⟨0, Nat.zero_le _, rfl, rfl, by repeat (first | exact Below.refl _ _ | assumption | (refine Below.drew ?_) | (refine below_drewN ?_ _) | (refine bel_new ?_ _) | (refine bel_then ?_ (by assumption)))⟩
  case round =>
    obtain ⟨k, hk, rfl, rfl, hbel⟩ := hrel
    obtain ⟨dk, hdk⟩ : ∃ x, x = dp (kns l) (k - 1) := ⟨_, rfl⟩
    have hdl := dp_le (kns l) (k - 1)
    rw [← hdk] at hdl ⊢
    by_cases hkl : k ≤ l.length
    · have hrr : Syms wr (.slice o l.length cap) l := hr.below hbel
      obtain ⟨sl, hsl⟩ : ∃ x, x = (stk (kns l) k).length := ⟨_, rfl⟩
      have hst := stk_len (kns l) k
      have hot := open_take l k hkl
      rw [← hsl] at hst hot
      have hd : dp (kns l) k = max dk sl := by
        cases k with
        | zero => simp [dp] at hdk ⊢; simp [stk] at hsl; omega
        | succ k => simp only [dp, Nat.add_sub_cancel] at hdk ⊢; rw [← hdk, ← hsl]
      have HK := Lib.hid (And.intro hdk (And.intro hsl (And.intro hot hd)))
      clear hdk hsl hot hd
      go_wp2_with (first
        | (refine wpList_cutS_h _ rfl _ _ 45 rfl 47 elemSyms undSyms i0 hi 2 hz1 _ _ _ rfl hrr (by rw [flat_len]) k rfl hkl ?_; intro o3 c3 hr3; have hr4 := Syms.cut (v := .slice o l.length cap) hkl (hr3 _ hrr))
        | (go_at_call 34; refine (hro k _ _ (hr4.below (by repeat (first | exact Below.refl _ _ | assumption | (refine Below.drew ?_) | (refine below_drewN ?_ _) | (refine bel_new ?_ _) | (refine bel_then ?_ (by assumption)))))).mono ?_; rintro e w1 ⟨u1, rfl, hown1, hb1⟩; obtain ⟨o1, c1, rfl⟩ := owns_slice hown1; rw [HK.out.2.2.1])
        | go_in)
      have hB := bel_then hbel hb1
      have HB := Lib.hid hB
      clear hown1 hb1 hr4 hr3 hrr hbel hB
      go_roundw
      case rel => exact ⟨k + 1, by omega, by go_num, by rw [Nat.add_sub_cancel, HK.out.2.2.2]; congr 1; omega, HB.out⟩
      case measure => simp [intOf] <;> omega
    · have hkn : k = l.length + 1 := by omega
      subst hkn
      go_wp2
      go_ret
      exact ⟨by rw [hdk]; rfl, hbel⟩
end Go.Proofs.Ytjeploipaejepaa

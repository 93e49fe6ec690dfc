/- The text of a row of bytes; decode's reference: Scalar and Put. -/
import Derived.Test.YtjdgfhgpbhjcpaaDecRef3
import Derived.Laws.BytesArg
set_option linter.unusedVariables false
set_option linter.unusedSimpArgs false
namespace Go.Proofs.Ytjdgfhgpbhjcpaa
open Go.RowKit De

theorem sb_nums (bs : List Int) (hu : ∀ x ∈ bs, 0 ≤ x ∧ x < 256) : sb (strOfNums bs) = bs := by
  unfold sb
  rw [strOfNums_data, List.map_map]
  conv => rhs; rw [← List.map_id bs]
  refine List.map_congr_left fun x hx => ?_
  have := hu x hx
  simp only [Function.comp, id, UInt8.toNat_ofNat']
  omega
theorem conv_row {w : World} {o : Option Addr} {n cap : Nat} {bs : List Int} (hn : n = bs.length) (hr : Row w (.slice o n cap) n (bs.map (Value.int .u8))) :
    (convert 22 9 (.slice o n cap)).run Try.prog w = .ok (.string (strOfNums bs)) w := by
  subst hn
  obtain ⟨o', cap', e, hc, hm, hrow⟩ := hr
  simp only [Value.slice.injEq, true_and] at e
  obtain ⟨rfl, rfl⟩ := e
  rcases hrow with ⟨h0, h1⟩ | ⟨b, off, rfl, hlt, hcell⟩
  · have hb : bs = [] := List.eq_nil_of_length_eq_zero h0
    subst hb
    cases o with
    | none => exact run_convert_bytes_nil w 22 5 Try.underlying22 Try.underlying5 _ _ 9 Try.underlying9
    | some a =>
      show (convert 22 9 (.slice (some a) 0 cap)).run Try.prog w = _
      rw [run_convert_bytes_string w 22 9 5 (some a) 0 cap Try.underlying22 Try.underlying5 Try.underlying9,
        run_bytesToString w _ 0 cap [] (by simpa using run_loadCells_list (P := Try.prog) w a [] (fun j v hj => by simp at hj))]
      rfl
  · exact run_convert_bytes_arg w 22 5 Try.underlying22 Try.underlying5 b off bs.length cap bs rfl (fun i hi => hcell i _ (getElem?_ints hi)) 9 Try.underlying9
theorem Row.lit (w : World) (e : TypeId) (cs : List Value) (n : Nat) (h : cs.length = n) (hm : n ≤ maxLen) : Row (w.alloc (.cells cs.toArray e)) (.slice (some ⟨w.heap.size, 0, none⟩) n n) n cs := by
  have h1 := World.ownsRow_lit (e := e) (base := w.heap.size) (size := 1) w cs.toArray n (Nat.le_refl _) hm (by simpa using h)
  simpa using Row.owned h1
theorem conv_lit (w : World) (bs : List Int) (n : Nat) (hn : n = bs.length) (hm : n ≤ 100) : (convert 22 9 (.slice (some ⟨w.heap.size, 0, none⟩) n n)).run Try.prog (w.alloc (.cells (bs.map (Value.int .u8)).toArray 5)) = .ok (.string (strOfNums bs)) (w.alloc (.cells (bs.map (Value.int .u8)).toArray 5)) :=
  conv_row hn (Row.lit w 5 (bs.map (Value.int .u8)) n (by simp [hn]) (by unfold maxLen; omega))

def scB (r : Int) : Bool := decide (0 ≤ r ∧ r ≤ 1114111 ∧ ¬ (55296 ≤ r ∧ r ≤ 57343))
theorem ret_bool {a b : Bool} (h : a = b) : Ending.returned (.bool a) = .returned (.bool b) := by rw [h]
theorem refScalar_any (r : Int) (w : World) : Calls Try.prog 24 #[.int .i32 r] w fun e w' => e = .returned (.bool (scB r)) ∧ w = w' := by
  go_enter Try.func24, Try.ntmps24
  by_cases h1 : 0 ≤ r
  · by_cases h2 : r ≤ 1114111
    · by_cases h3 : r < 55296
      · go_wp2
        go_ret
        exact ⟨ret_bool (by unfold scB; simp; omega), rfl⟩
      · by_cases h4 : 57343 < r
        · go_wp2
          go_ret
          exact ⟨ret_bool (by unfold scB; simp; omega), rfl⟩
        · go_wp2
          go_ret
          exact ⟨ret_bool (by unfold scB; simp; omega), rfl⟩
    · go_wp2
      go_ret
      exact ⟨ret_bool (by unfold scB; simp; omega), rfl⟩
  · go_wp2
    go_ret
    exact ⟨ret_bool (by unfold scB; simp; omega), rfl⟩

theorem m63 {x : Int} (h0 : 0 ≤ x) (h1 : x < 2147483648) : bits BinOp.or IntKind.i32 128 (bits BinOp.and IntKind.i32 x 63) % 256 = 128 + x % 64 := by
  rw [show bits BinOp.and IntKind.i32 x 63 = x % 64 from bits_mask .i32 31 (by decide) wraps_i32 6 (by decide) x h0 (by omega)]
  rw [bits_join .i32 31 (by decide) wraps_i32 6 128 (x % 64) (by decide) (by decide) (by decide) (by omega) (by omega) (by omega)]
  omega
theorem o224 {x : Int} (h0 : 0 ≤ x) (h1 : x < 16) : bits BinOp.or IntKind.i32 224 x % 256 = 224 + x := by
  rw [bits_join .i32 31 (by decide) wraps_i32 5 224 x (by decide) (by decide) (by decide) h0 (by omega) (by omega)]; omega
theorem o240 {x : Int} (h0 : 0 ≤ x) (h1 : x < 8) : bits BinOp.or IntKind.i32 240 x % 256 = 240 + x := by
  rw [bits_join .i32 31 (by decide) wraps_i32 4 240 x (by decide) (by decide) (by decide) h0 (by omega) (by omega)]; omega
theorem ret_str {a b : List Int} (h : a = b) : Ending.returned (.string (strOfNums a)) = .returned (.string (strOfNums b)) := by rw [h]

set_option maxHeartbeats 4000000 in
set_option maxRecDepth 1000000 in
theorem refPut_any (r : Int) (w : World) (hr : -2147483648 ≤ r ∧ r ≤ 2147483647) :
    Calls Try.prog 14 #[.int .i32 r] w fun e w' => e = .returned (.string (strOfNums (put r))) ∧ Below w.heap.size w w' := by
  obtain ⟨q, hq⟩ : ∃ q, q = scB r := ⟨_, rfl⟩
  have hsc := refScalar_any r
  rw [← hq] at hsc
  cases q with
  | true =>
    have hs : 0 ≤ r ∧ r ≤ 1114111 ∧ ¬ (55296 ≤ r ∧ r ≤ 57343) := by have := hq.symm; unfold scB at this; exact of_decide_eq_true this
    obtain ⟨s1, s2, s3⟩ := hs
    clear hq
    by_cases h1 : r < 128
    · have hp : Hid (put r = [r]) := Lib.hid (Lib.encodeRuneZ_one s1 (by omega))
      go_enter Try.func14, Try.ntmps14
      go_wp2_with (go_at_call 24; refine (hsc _).mono ?_; rintro e w' ⟨rfl, rfl⟩)
      have hcv := conv_lit w [r] 1 rfl (by decide)
      simp only [List.map_cons, List.map_nil] at hcv
      rw [hcv]
      go_wp2
      go_ret
      exact ⟨ret_str (by rw [hp.out]), bel_new (Below.refl _ _) _⟩
    by_cases h2 : r < 2048
    · have hp : Hid (put r = [192 + r / 64, 128 + r % 64]) := Lib.hid (Lib.encodeRuneZ_two (by omega) (by omega))
      go_enter Try.func14, Try.ntmps14
      go_wp2_with (go_at_call 24; refine (hsc _).mono ?_; rintro e w' ⟨rfl, rfl⟩)
      have hcv := conv_lit w [192 + r / 64, bits BinOp.or IntKind.i32 128 (bits BinOp.and IntKind.i32 r 63) % 256] 2 rfl (by decide)
      simp only [List.map_cons, List.map_nil] at hcv
      rw [hcv]
      go_wp2
      go_ret
      exact ⟨ret_str (by rw [hp.out, m63 s1 (by omega)]), bel_new (Below.refl _ _) _⟩
    by_cases h3 : r < 65536
    · have hp : Hid (put r = [224 + r / 4096, 128 + r / 64 % 64, 128 + r % 64]) := Lib.hid (Lib.encodeRuneZ_three (by omega))
      go_enter Try.func14, Try.ntmps14
      go_wp2_with (go_at_call 24; refine (hsc _).mono ?_; rintro e w' ⟨rfl, rfl⟩)
      have hcv := conv_lit w [bits BinOp.or IntKind.i32 224 (r / 4096) % 256, bits BinOp.or IntKind.i32 128 (bits BinOp.and IntKind.i32 (r / 64) 63) % 256, bits BinOp.or IntKind.i32 128 (bits BinOp.and IntKind.i32 r 63) % 256] 3 rfl (by decide)
      simp only [List.map_cons, List.map_nil] at hcv
      rw [hcv]
      go_wp2
      go_ret
      exact ⟨ret_str (by rw [hp.out, o224 (by omega) (by omega), m63 s1 (by omega), m63 (x := r / 64) (by omega) (by omega)]), bel_new (Below.refl _ _) _⟩
    · have hp : Hid (put r = [240 + r / 262144, 128 + r / 4096 % 64, 128 + r / 64 % 64, 128 + r % 64]) := Lib.hid (Lib.encodeRuneZ_four (by omega) (by omega))
      go_enter Try.func14, Try.ntmps14
      go_wp2_with (go_at_call 24; refine (hsc _).mono ?_; rintro e w' ⟨rfl, rfl⟩)
      have hcv := conv_lit w [bits BinOp.or IntKind.i32 240 (r / 262144) % 256, bits BinOp.or IntKind.i32 128 (bits BinOp.and IntKind.i32 (r / 4096) 63) % 256, bits BinOp.or IntKind.i32 128 (bits BinOp.and IntKind.i32 (r / 64) 63) % 256, bits BinOp.or IntKind.i32 128 (bits BinOp.and IntKind.i32 r 63) % 256] 4 rfl (by decide)
      simp only [List.map_cons, List.map_nil] at hcv
      rw [hcv]
      go_wp2
      go_ret
      exact ⟨ret_str (by rw [hp.out, o240 (by omega) (by omega), m63 s1 (by omega), m63 (x := r / 64) (by omega) (by omega), m63 (x := r / 4096) (by omega) (by omega)]), bel_new (Below.refl _ _) _⟩
  | false =>
    have hs : ¬ (0 ≤ r ∧ r ≤ 1114111 ∧ ¬ (55296 ≤ r ∧ r ≤ 57343)) := by have := hq.symm; unfold scB at this; simpa using this
    clear hq
    have hp : Hid (put r = [239, 191, 189]) := Lib.hid (Lib.encodeRuneZ_bad (by omega))
    clear hs
    go_enter Try.func14, Try.ntmps14
    go_wp2_with (go_at_call 24; refine (hsc _).mono ?_; rintro e w' ⟨rfl, rfl⟩)
    have hcv := conv_lit w [bits BinOp.or IntKind.i32 224 15 % 256, bits BinOp.or IntKind.i32 128 (bits BinOp.and IntKind.i32 1023 63) % 256, bits BinOp.or IntKind.i32 128 (bits BinOp.and IntKind.i32 65533 63) % 256] 3 rfl (by decide)
    simp only [List.map_cons, List.map_nil] at hcv
    rw [hcv]
    go_wp2
    go_ret
    exact ⟨ret_str (by rw [hp.out, o224 (by decide) (by decide), m63 (by decide) (by decide), m63 (by decide) (by decide)]; decide), bel_new (Below.refl _ _) _⟩
end Go.Proofs.Ytjdgfhgpbhjcpaa

/- The walk of LinesAsks. -/
import Derived.Test.YtjeploipaejepaaLineLaw1
import Derived.Test.YtjeploipaejepaaIntsSame
import Derived.Laws.BytesArg
set_option linter.unusedVariables false
set_option linter.unusedSimpArgs false
namespace Go.Proofs.Ytjeploipaejepaa
open Go.RowKit

/-- the text of a row of bytes -/
theorem sb_nums (bs : List Int) (hu : ∀ x ∈ bs, 0 ≤ x ∧ x < 256) : sb (strOfNums bs) = bs := by
  unfold sb
  rw [strOfNums_data, List.map_map]
  conv => rhs; rw [← List.map_id bs]
  refine List.map_congr_left fun x hx => ?_
  have := hu x hx
  simp only [Function.comp, id, UInt8.toNat_ofNat']
  omega
theorem conv_row {w : World} {o : Option Addr} {cap : Nat} {bs : List Int} (hr : Row w (.slice o bs.length cap) bs.length (bs.map (Value.int .u8))) :
    (convert 22 9 (.slice o bs.length cap)).run Try.prog w = .ok (.string (strOfNums bs)) w := by
  obtain ⟨o', cap', e, hc, hm, hrow⟩ := hr
  simp only [Value.slice.injEq, true_and] at e
  obtain ⟨rfl, rfl⟩ := e
  rcases hrow with ⟨h0, h1⟩ | ⟨b, off, rfl, hlt, hcell⟩
  · have hb : bs = [] := List.eq_nil_of_length_eq_zero h0
    subst hb
    cases o with
    | none => exact run_convert_bytes_nil w 22 5 Try.underlying22 Try.underlying5 _ _ 9 Try.underlying9
    | some a =>
      show (convert 22 9 (.slice (some a) 0 cap)).run Try.prog w = _
      rw [run_convert_bytes_string w 22 9 5 (some a) 0 cap Try.underlying22 Try.underlying5 Try.underlying9,
        run_bytesToString w _ 0 cap [] (by simpa using run_loadCells_list (P := Try.prog) w a [] (fun j v hj => by simp at hj))]
      rfl
  · exact run_convert_bytes_arg w 22 5 Try.underlying22 Try.underlying5 b off bs.length cap bs rfl (fun i hi => hcell i _ (getElem?_ints hi)) 9 Try.underlying9

set_option maxHeartbeats 2000000 in
set_option maxRecDepth 1000000 in
theorem linesAsks_walk (bs : List Int) (v : Value) (line a : Int) (zs : List Int) (u : Value) (w : World) (hr : Row w v bs.length (bs.map (Value.int .u8))) (hu : ∀ x ∈ bs, 0 ≤ x ∧ x < 256)
    (hl : (Lit.int .i64 line).wf = true) (ha : (Lit.int .i64 a).wf = true) (hr2 : Row w u zs.length (zs.map (Value.int .i64))) (hz : ∀ z ∈ zs, (Lit.int .i64 z).wf = true) :
    Calls Try.prog 3 #[v, .int .i64 line, .int .i64 a, u] w fun e w' => e = .returned (.bool true) ∧ Below w.heap.size w w' := by
  have hmax := hr.le
  have hmax2 := hr2.le
  have hl' : -9223372036854775808 ≤ line ∧ line ≤ 9223372036854775807 := by simp [Lit.wf, IntKind.min, IntKind.max, IntKind.signed, IntKind.bits] at hl; omega
  obtain ⟨ov, cv, rfl⟩ := hr.slice
  obtain ⟨ou, cu, rfl⟩ := hr2.slice
  by_cases hlen : 400 < bs.length ∨ 60 < zs.length
  · have hl : (400 < bs.length) ∨ (¬ 400 < bs.length ∧ 60 < zs.length) := by omega
    clear hlen
    rcases hl with hl | ⟨hl, hl2⟩
    all_goals (
      go_enter Try.func3, Try.ntmps3
      go_wp2_with (go_at_call 13; refine (told_any _).mono ?_; rintro e w1 ⟨rfl, hb1⟩)
      go_ret
      exact ⟨rfl, by repeat (first | exact Below.refl _ _ | assumption | (refine Below.drew ?_) | (refine below_drewN ?_ _) | (refine bel_new ?_ _) | (refine bel_then ?_ (by assumption)))⟩)
  have hl1 : bs.length ≤ 400 := by omega
  have hl2 : zs.length ≤ 60 := by omega
  clear hlen hmax hmax2 hl
  have hsb := sb_nums bs hu
  have hss := strOfNums_size bs
  obtain ⟨s, hs⟩ : ∃ s, s = strOfNums bs := ⟨_, rfl⟩
  have hconv := fun (w : World) hr => hs ▸ conv_row (w := w) (o := ov) (cap := cv) (bs := bs) hr
  rw [← hs] at hsb hss
  have hsl := sts_le bs
  clear hs
  have HS := Lib.hid (And.intro hsb hss)
  have HC := Lib.hid hconv
  have hends := fun (w : World) hr => ends_any bs line (.slice ov bs.length cv) w (by omega) hr hu hl'
  have hrends := fun (w : World) => refEnds_any s line w (by omega) hl'
  have hfind := fun (w : World) hr => find_any zs a (.slice ou zs.length cu) w (by omega) hr ha hz
  have hrfind := fun (w : World) hr => refFind_any zs a (.slice ou zs.length cu) w (by omega) hr ha
  have hstart := fun (w : World) hr => starts_any bs (.slice ov bs.length cv) w (by omega) hr hu
  have hrstart := fun (w : World) => refStarts_any s w (by omega)
  have HF := Lib.hid (And.intro hends (And.intro hrends (And.intro hfind (And.intro hrfind (And.intro hstart hrstart)))))
  clear hsb hss hconv hends hrends hfind hrfind hstart hrstart hl' ha hu hz
  go_enter Try.func3, Try.ntmps3
  go_wp2_with fail
  refine (HF.out.1 _ hr).mono ?_
  rintro e w1 ⟨x1, y1, rfl, he1, hb1⟩
  have hc1 := HC.out w1 (hr.below hb1)
  have E1 := Lib.hid he1
  clear he1
  go_wp2_with fail
  refine (HF.out.2.1 w1).mono ?_
  rintro e w2 ⟨x2, y2, rfl, he2, hb2⟩
  rw [HS.out.1] at he2
  obtain ⟨rfl, rfl⟩ := E1.out.uniq he2
  have hB2 : Below w.heap.size w w2 := bel_then hb1 hb2
  clear he2 hc1 hb1 hb2 E1
  go_wp2_with fail
  refine (HF.out.2.2.1 w2 (hr2.below hB2)).mono ?_
  rintro e w3 ⟨x3, y3, rfl, he3, hb3⟩
  have hB3 : Below w.heap.size w w3 := bel_then hB2 hb3
  have E3 := Lib.hid he3
  clear he3 hb3 hB2
  go_wp2_with fail
  refine (HF.out.2.2.2.1 w3 (hr2.below hB3)).mono ?_
  rintro e w4 ⟨x4, y4, rfl, he4, hb4⟩
  obtain ⟨rfl, rfl⟩ := E3.out.uniq he4
  have hB4 : Below w.heap.size w w4 := bel_then hB3 hb4
  clear he4 hb4 hB3 E3
  go_wp2_with fail
  have hc4 := HC.out w4.drew (hr.below hB4.drew)
  go_region_held3 (fun w' => (convert 22 9 (.slice ov bs.length cv)).run Try.prog w' = .ok (.string s) w')
    (first | assumption | go_keep)
    (first
     | (go_at_call 13; refine (told_any _).mono ?_; rintro e w5 ⟨rfl, hb5⟩; have hB5 : Below w.heap.size w w5 := bel_then hB4.drew hb5; have hc5 := HC.out w5 (hr.below hB5))
     | (go_at_call 19; refine (HF.out.2.2.2.2.1 _ (hr.below hB5)).mono ?_; rintro e w6 ⟨u6, rfl, hown6, hb6⟩; have hB6 : Below w.heap.size w w6 := bel_then hB5 hb6; have hc6 := HC.out w6 (hr.below hB6))
     | (go_at_call 20; refine (HF.out.2.2.2.2.2 _).mono ?_; rintro e w7 ⟨u7, rfl, hown7, hb7⟩; rw [HS.out.1] at hown7; have hB7 : Below w.heap.size w w7 := bel_then hB6 hb7; have hown67 := owns_below hown6 hb7; have hc7 := HC.out w7 (hr.below hB7))
     | (go_at_call 18; refine (numbers_same (sts bs) _ _ _ (Row.owned hown67) (Row.owned hown7) (by omega)).mono ?_; rintro e w8 ⟨rfl, hb8⟩; have hB8 : Below w.heap.size w w8 := bel_then hB7 hb8; have hc8 := HC.out w8 (hr.below hB8)))
  go_wp2
  go_ret
  exact ⟨rfl, by repeat (first | exact Below.refl _ _ | assumption | (refine Below.drew ?_) | (refine below_drewN ?_ _) | (refine bel_new ?_ _) | (refine bel_then ?_ (by assumption)))⟩
end Go.Proofs.Ytjeploipaejepaa

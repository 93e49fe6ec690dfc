/- The text of a row of bytes. -/
import Derived.Test.YtkngppkchaadhaaGreatChecked
import Derived.Test.YtkngppkchaadhaaGreatProg
import Derived.Test.YtkngppkchaadhaaGreatRowsOf
import Derived.WalkKit
import Derived.Laws.BytesArg
set_option linter.unusedVariables false
set_option linter.unusedSimpArgs false
namespace Go.Proofs.YtkngppkchaadhaaGreat
open Go.RowKit

theorem sb_append (s t : ByteArray) : sb (s ++ t) = sb s ++ sb t := by simp [sb, ByteArray.data_append]
theorem sb_nums (bs : List Int) (hu : ∀ x ∈ bs, 0 ≤ x ∧ x < 256) : sb (strOfNums bs) = bs := by
  unfold sb
  rw [strOfNums_data, List.map_map]
  conv => rhs; rw [← List.map_id bs]
  refine List.map_congr_left fun x hx => ?_
  have := hu x hx
  simp only [Function.comp, id, UInt8.toNat_ofNat']
  omega
theorem conv_row {w : World} {o : Option Addr} {n cap : Nat} {bs : List Int} (hn : n = bs.length) (hr : Row w (.slice o n cap) n (bs.map (Value.int .u8))) :
    (convert 39 9 (.slice o n cap)).run Tryz.prog w = .ok (.string (strOfNums bs)) w := by
  subst hn
  obtain ⟨o', cap', e, hc, hm, hrow⟩ := hr
  simp only [Value.slice.injEq, true_and] at e
  obtain ⟨rfl, rfl⟩ := e
  rcases hrow with ⟨h0, h1⟩ | ⟨b, off, rfl, hlt, hcell⟩
  · have hb : bs = [] := List.eq_nil_of_length_eq_zero h0
    subst hb
    cases o with
    | none => exact run_convert_bytes_nil w 39 5 Tryz.underlying39 Tryz.underlying5 _ _ 9 Tryz.underlying9
    | some a =>
      show (convert 39 9 (.slice (some a) 0 cap)).run Tryz.prog w = _
      rw [run_convert_bytes_string w 39 9 5 (some a) 0 cap Tryz.underlying39 Tryz.underlying5 Tryz.underlying9,
        run_bytesToString w _ 0 cap [] (by simpa using run_loadCells_list (P := Tryz.prog) w a [] (fun j v hj => by simp at hj))]
      rfl
  · exact run_convert_bytes_arg w 39 5 Tryz.underlying39 Tryz.underlying5 b off bs.length cap bs rfl (fun i hi => hcell i _ (getElem?_ints hi)) 9 Tryz.underlying9
theorem Row.lit (w : World) (e : TypeId) (cs : List Value) (n : Nat) (h : cs.length = n) (hm : n ≤ maxLen) : Row (w.alloc (.cells cs.toArray e)) (.slice (some ⟨w.heap.size, 0, none⟩) n n) n cs := by
  have h1 := World.ownsRow_lit (e := e) (base := w.heap.size) (size := 1) w cs.toArray n (Nat.le_refl _) hm (by simpa using h)
  simpa using Row.owned h1
theorem conv_lit (w : World) (bs : List Int) (n : Nat) (hn : n = bs.length) (hm : n ≤ 100) : (convert 39 9 (.slice (some ⟨w.heap.size, 0, none⟩) n n)).run Tryz.prog (w.alloc (.cells (bs.map (Value.int .u8)).toArray 5)) = .ok (.string (strOfNums bs)) (w.alloc (.cells (bs.map (Value.int .u8)).toArray 5)) :=
  conv_row hn (Row.lit w 5 (bs.map (Value.int .u8)) n (by simp [hn]) (by unfold maxLen; omega))

end Go.Proofs.YtkngppkchaadhaaGreat

/- Where a line begins and ends: bytes.IndexByte, begin, Ends. -/
import Derived.Test.YtjeploipaejepaaLineStarts
import Derived.Lib.BytesEntry
import Derived.Shelf.Bytes.SlIndexAt
import Derived.Lib.IndexLaws
set_option linter.unusedVariables false
set_option linter.unusedSimpArgs false
namespace Go.Proofs.Ytjeploipaejepaa
open Go.RowKit

/-- r is where the first 10 stands behind place d, counted from there; -1: nowhere -/
def Next10 (bs : List Int) (d : Nat) (r : Int) : Prop :=
  (r = -1 ∧ ∀ k, d ≤ k → k < bs.length → bs.getD k 0 ≠ 10) ∨ ∃ c : Nat, r = (c : Int) ∧ d + c < bs.length ∧ bs.getD (d + c) 0 = 10 ∧ ∀ k, d ≤ k → k < d + c → bs.getD k 0 ≠ 10

theorem bytesOf_get (xs : List Int) (k : Nat) : (Lib.bytesOf xs)[k]? = (xs[k]?).map (fun x => x.toNat.toUInt8) := by
  simp [Lib.bytesOf]
theorem u8_ten {x : Int} (h : 0 ≤ x ∧ x < 256) : x.toNat.toUInt8 = (10 : Int).toNat.toUInt8 ↔ x = 10 := by
  constructor
  · intro e
    have := congrArg UInt8.toNat e
    simp at this
    omega
  · rintro rfl; rfl

theorem next10_of (xs : List Int) (hu : ∀ x ∈ xs, 0 ≤ x ∧ x < 256) : Next10 xs 0 (Lib.indexByte (Lib.bytesOf xs) (10 : Int).toNat.toUInt8) := by
  generalize hr : Lib.indexByte (Lib.bytesOf xs) (10 : Int).toNat.toUInt8 = r
  have hge := Lib.indexByte_ge (Lib.bytesOf xs) (10 : Int).toNat.toUInt8
  rw [hr] at hge
  have val : ∀ k, k < xs.length → ((Lib.bytesOf xs)[k]? = some (10 : Int).toNat.toUInt8 ↔ xs.getD k 0 = 10) := by
    intro k hk
    rw [bytesOf_get, List.getElem?_eq_getElem hk, Option.map_some, Option.some.injEq, u8_ten (hu _ (List.getElem_mem hk))]
    simp [List.getD, hk]
  rcases (by omega : r < 0 ∨ 0 ≤ r) with h | h
  · have e : r = -1 := by omega
    subst e
    refine .inl ⟨rfl, fun k _ hk => ?_⟩
    have := Lib.indexByte_none hr k
    exact fun e => this ((val k hk).2 e)
  · obtain ⟨c, rfl⟩ : ∃ c : Nat, r = (c : Int) := ⟨r.toNat, by omega⟩
    obtain ⟨h1, h2⟩ := Lib.indexByte_some hr
    have hl : c < xs.length := by
      have := (List.getElem?_eq_some_iff.1 h1).1
      simpa [Lib.bytesOf] using this
    refine .inr ⟨c, rfl, by omega, by simpa using (val c hl).1 h1, fun k _ hk => ?_⟩
    have := h2 k (by omega)
    intro e
    exact this ((val k (by omega)).2 e)

theorem ext_indexByte (v : Value) (xs : List Int) (w : World) (hr : Row w v xs.length (xs.map (Value.int .u8))) (hu : ∀ x ∈ xs, 0 ≤ x ∧ x < 256) :
    ∃ r, Next10 xs 0 r ∧ (callFunc 49 #[v, .int .u8 10]).run Try.prog w = .ok (.value (.int .i64 r)) w := by
  obtain ⟨o, cap, rfl, hcap, hmax, hrow⟩ := hr
  refine ⟨_, next10_of xs hu, ?_⟩
  rw [run_callFunc_extern (P := Try.prog) (f := 49) (fn := Try.f49) (e := Extern.BytealgIndexByte.indexByte) Try.func49 (by kernel_rfl) (by kernel_rfl) (by kernel_rfl) (by kernel_rfl)]
  have h : (Extern.BytealgIndexByte.indexByte #[.slice o xs.length cap, .int .u8 10]).run Try.prog w = .ok (.int .i64 (Lib.indexByte (Lib.bytesOf xs) (10 : Int).toNat.toUInt8)) w := by
    rcases hrow with ⟨h0, h1⟩ | ⟨b, off, rfl, hlt, hc⟩
    · have : xs = [] := List.eq_nil_of_length_eq_zero h0
      subst this
      cases o with
      | none => rw [h1 rfl]; exact Lib.run_indexByteNil w _ _ _
      | some a => exact Lib.run_indexByteAt w a 0 cap [] rfl (fun i hi => by omega) 10
    · exact Lib.run_indexByteSlice w b off xs.length cap xs rfl (fun i hi => hc i _ (getElem?_ints hi)) 10
  rw [h]; rfl

set_option maxHeartbeats 1000000 in
set_option maxRecDepth 1000000 in
theorem indexByte_any (xs : List Int) (v : Value) (w : World) (hr : Row w v xs.length (xs.map (Value.int .u8))) (hu : ∀ x ∈ xs, 0 ≤ x ∧ x < 256) :
    Calls Try.prog 40 #[v, .int .u8 10] w fun e w' => ∃ r, e = .returned (.int .i64 r) ∧ Next10 xs 0 r ∧ w = w' := by
  obtain ⟨r, h1, h2⟩ := ext_indexByte v xs w hr hu
  clear hr
  go_enter Try.func40, Try.ntmps40
  go_wp2_with (first | (simp only [h2]) | go_in)
  go_ret
  exact ⟨r, rfl, h1, rfl⟩
end Go.Proofs.Ytjeploipaejepaa

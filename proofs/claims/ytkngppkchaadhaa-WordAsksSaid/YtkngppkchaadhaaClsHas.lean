/- word: is a rune one of some; take, letter, element, of plain letters. -/
import Derived.Test.YtkngppkchaadhaaClsPeek
set_option linter.unusedVariables false
set_option linter.unusedSimpArgs false
namespace Go.Proofs.Ytkngppkchaadhaa
open Go.RowKit De Wd

set_option maxHeartbeats 4000000 in
set_option maxRecDepth 100000 in
theorem indexRune_small (s : ByteArray) (r : Int) (w : World) (h0 : 0 ≤ r) (h1 : r < 128) :
    Calls Try.prog 76 #[.string s, .int .i32 r] w fun e w' => e = .returned (.int .i64 (Lib.indexByte s.data.toList r.toNat.toUInt8)) ∧ w = w' := by
  go_enter Try.func76, Try.ntmps76
  go_wp2_with fail
  refine (Any.strings_IndexByte Try.indexB _ _ _).mono ?_
  rintro e w' ⟨rfl, rfl⟩
  go_wp2
  go_ret
  exact ⟨rfl, rfl⟩
namespace Wd
def lst1 : List Int := [47, 124, 42, 40, 41, 91, 93, 45]
def okL (r : Int) : Bool := decide (32 ≤ r) && !(decide (r ∈ lst1))
theorem lst1_ix : ∀ n : Nat, n < 128 → decide (0 ≤ Lib.indexByte [47, 124, 42, 40, 41, 91, 93, 45] n.toUInt8) = decide ((n : Int) ∈ lst1) := by decide +kernel
end Wd
set_option maxHeartbeats 1000000 in
theorem contains1_small (r : Int) (w : World) (h0 : 0 ≤ r) (h1 : r < 128) :
    Calls Try.prog 63 #[.string ⟨#[47, 124, 42, 40, 41, 91, 93, 45]⟩, .int .i32 r] w fun e w' => e = .returned (.bool (decide (r ∈ lst1))) ∧ w = w' := by
  have hx := lst1_ix r.toNat (by omega)
  have er : ((r.toNat : Nat) : Int) = r := by omega
  rw [er] at hx
  have hc := fun w => indexRune_small ⟨#[47, 124, 42, 40, 41, 91, 93, 45]⟩ r w h0 h1
  have e2 : (⟨#[47, 124, 42, 40, 41, 91, 93, 45]⟩ : ByteArray).data.toList = [47, 124, 42, 40, 41, 91, 93, 45] := rfl
  rw [e2] at hc
  obtain ⟨ix, hix⟩ : ∃ ix, ix = Lib.indexByte [47, 124, 42, 40, 41, 91, 93, 45] r.toNat.toUInt8 := ⟨_, rfl⟩
  rw [← hix] at hx hc
  have HC := Lib.hid hc
  have HX := Lib.hid hx
  clear hc hx hix e2 er
  go_enter Try.func63, Try.ntmps63
  go_wp2_with fail
  refine (HC.out _).mono ?_
  rintro e w' ⟨rfl, rfl⟩
  go_wp2
  go_ret
  exact ⟨by rw [← HX.out]; rfl, rfl⟩
set_option maxHeartbeats 1000000 in
theorem letter1_any (r : Int) (w : World) (h0 : 0 ≤ r) (h1 : r < 128) :
    Calls Try.prog 62 #[.int .i32 r] w fun e w' => e = .returned (.bool (okL r)) ∧ w = w' := by
  have hc := fun w => contains1_small r w h0 h1
  by_cases h32 : 32 ≤ r
  · cases hm : decide (r ∈ lst1) with
    | true =>
      have ho : okL r = false := by simp [okL, hm]
      rw [hm] at hc
      have HO := Lib.hid ho
      have HC := Lib.hid hc
      clear hm ho hc
      go_enter Try.func62, Try.ntmps62
      go_wp2_with fail
      refine (HC.out _).mono ?_
      rintro e w' ⟨rfl, rfl⟩
      go_wp2
      go_ret
      exact ⟨by rw [HO.out]; rfl, rfl⟩
    | false =>
      have ho : okL r = true := by simp [okL, hm, h32]
      rw [hm] at hc
      have HO := Lib.hid ho
      have HC := Lib.hid hc
      clear hm ho hc
      go_enter Try.func62, Try.ntmps62
      go_wp2_with fail
      refine (HC.out _).mono ?_
      rintro e w' ⟨rfl, rfl⟩
      go_wp2
      go_ret
      exact ⟨by rw [HO.out]; rfl, rfl⟩
  · have ho : okL r = false := by simp [okL, h32]
    have HO := Lib.hid ho
    clear ho hc
    go_enter Try.func62, Try.ntmps62
    go_wp2
    go_ret
    exact ⟨by rw [HO.out]; rfl, rfl⟩
/-- all items are plain letters -/
def Pl (L : Its) : Prop := ∀ p ∈ L, p.2.bad = false ∧ 0 ≤ p.2.r ∧ p.2.r < 128 ∧ p.2.r ≠ 92
theorem Pl.pk {L : Its} (h : Pl L) {k : Nat} (hk : k < L.length) : 0 ≤ Wd.pk L k ∧ Wd.pk L k < 128 ∧ Wd.pk L k ≠ 92 := by
  have := h L[k] (List.getElem_mem hk)
  unfold Wd.pk
  rw [List.getElem?_eq_getElem hk]
  simp [this.1, this.2]
namespace Wd
def tk (L : Its) (k : Nat) : Bool := decide (0 ≤ pk L k) && okL (pk L k)
theorem tk_lt {L : Its} {k : Nat} (h : tk L k = true) : k < L.length := by
  rcases Nat.lt_or_ge k L.length with h1 | h1
  · exact h1
  · rw [tk, pk_end (by omega)] at h; simp at h
/-- a rune, or two with a - between: and the next item; or where it is wrong -/
def el (L : Its) (k : Nat) : Except Nat ((Int × Int) × Nat) :=
  if tk L k = true then
    if pk L (k + 1) = 45 then
      if tk L (k + 2) = true then if pk L (k + 2) < pk L k then .error (k + 2) else .ok ((pk L k, pk L (k + 2)), k + 3)
      else .error (k + 2)
    else .ok ((pk L k, pk L k), k + 1)
  else .error k
end Wd
def TakePost (p : Nat) (L : Its) (k n : Nat) (v : Value) (w : World) (e : Ending) (w' : World) : Prop :=
  (tk L k = true ∧ e = .returned (.int .i32 (pk L k)) ∧ CI w' p L (k + 1) n v ∧ Ch w w' p) ∨ (tk L k = false ∧ e = flt 3 (plc L n k) ∧ CI w' p L k n v ∧ Ch w w' p)
theorem Ch.bel {w w' : World} {p : Nat} (h : Ch w w' p) (hp : w.heap.size ≤ p) : Below w.heap.size w w' := ⟨h.os, h.tape, h.output, h.size, fun k hk => h.block k hk (by omega)⟩

set_option maxHeartbeats 2000000 in
set_option maxRecDepth 100000 in
theorem take_any (p k n : Nat) (L : Its) (v : Value) (w : World) (h : CI w p L k n v) (hpl : Pl L) :
    Calls Try.prog 61 #[.pointer (some ⟨p, 0, none⟩), .func (Fn.func 62) #[] #[]] w (TakePost p L k n v w) := by
  have hpe := fun w h => peek_any p k n L v w h
  have H := Lib.hid h
  have hkl : k < L.length → 0 ≤ pk L k ∧ pk L k < 128 := fun hk => ⟨(hpl.pk hk).1, (hpl.pk hk).2.1⟩
  have htl := fun h => tk_lt (L := L) (k := k) h
  have htk : tk L k = (decide (0 ≤ pk L k) && okL (pk L k)) := rfl
  have hen : ¬ k < L.length → pk L k = -1 := pk_end
  unfold TakePost
  obtain ⟨r, hr⟩ : ∃ r, r = pk L k := ⟨_, rfl⟩
  rw [← hr] at hpe hkl htk hen ⊢
  have HPE := Lib.hid hpe
  clear hpe h hr hpl
  have hsm : k ≤ 1000000 := Nat.le_trans H.out.le H.out.small
  by_cases hk : k < L.length
  · obtain ⟨r0, r1⟩ := hkl hk
    have hc := fun w => letter1_any r w r0 r1
    cases ho : okL r with
    | true =>
      have ht : tk L k = true := by rw [htk, ho]; simp [r0]
      have HT := Lib.hid ht
      rw [ho] at hc
      have HC := Lib.hid hc
      clear ho ht hc htk htl hkl hen
      go_enter Try.func61, Try.ntmps61
      go_wp2_with fail
      refine (HPE.out _ H.out).mono ?_
      rintro e w1 ⟨rfl, q, rfl⟩
      go_wp2_with fail
      refine (HC.out _).mono ?_
      rintro e w' ⟨rfl, rfl⟩
      obtain ⟨⟨c0, c1, c2⟩, f0, f1, f2⟩ := cells3_of (H.out.drewN q).hh
      go_wp2
      go_ret
      have hat := (H.out.drewN q).at (k' := k + 1) (by omega)
      exact .inl ⟨HT.out, rfl, by simpa using hat, (Ch.drewN p q).trans (Ch.set _ _ _ _)⟩
    | false =>
      have ht : tk L k = false := by rw [htk, ho]; simp
      have HT := Lib.hid ht
      rw [ho] at hc
      have HC := Lib.hid hc
      clear ho ht hc htk htl hkl hen
      go_enter Try.func61, Try.ntmps61
      go_wp2_with fail
      refine (HPE.out _ H.out).mono ?_
      rintro e w1 ⟨rfl, q, rfl⟩
      go_wp2_with fail
      refine (HC.out _).mono ?_
      rintro e w' ⟨rfl, rfl⟩
      go_wp2_with fail
      refine (cfail_any p k n L v _ (H.out.drewN q)).mono ?_
      rintro e w2 ⟨rfl, q2, rfl⟩
      go_wp2
      exact ⟨rfl, .inr ⟨HT.out, rfl, H.out.drewN _, Ch.drewN p _⟩⟩
  · obtain rfl := hen hk
    have ht : tk L k = false := by rw [htk]; rfl
    have HT := Lib.hid ht
    clear ht htk htl hkl hen
    go_enter Try.func61, Try.ntmps61
    go_wp2_with fail
    refine (HPE.out _ H.out).mono ?_
    rintro e w1 ⟨rfl, q, rfl⟩
    go_wp2_with fail
    refine (cfail_any p k n L v _ (H.out.drewN q)).mono ?_
    rintro e w2 ⟨rfl, q2, rfl⟩
    go_wp2
    exact ⟨rfl, .inr ⟨HT.out, rfl, H.out.drewN _, Ch.drewN p _⟩⟩
set_option maxHeartbeats 2000000 in
set_option maxRecDepth 100000 in
theorem letter_any (p k n : Nat) (L : Its) (v : Value) (w : World) (h : CI w p L k n v) (hpl : Pl L) :
    Calls Try.prog 44 #[.pointer (some ⟨p, 0, none⟩)] w (TakePost p L k n v w) := by
  have hne : tk L k = true → (pk L k != 92) = true := fun h => by have := (hpl.pk (tk_lt h)).2.2; simpa using this
  have HN := Lib.hid hne
  clear hne
  go_enter Try.func44, Try.ntmps44
  go_wp2_with fail
  refine (take_any p k n L v _ h hpl).mono ?_
  rintro e w1 (⟨ht, rfl, hci, hch⟩ | ⟨ht, rfl, hci, hch⟩)
  · have hn := HN.out ht
    have HT := Lib.hid (And.intro ht (And.intro hci hch))
    clear ht hci hch
    go_wp2
    go_ret
    exact .inl ⟨HT.out.1, rfl, HT.out.2.1, HT.out.2.2⟩
  · have HT := Lib.hid (And.intro ht (And.intro hci hch))
    clear ht hci hch
    go_wp2
    exact ⟨rfl, .inr ⟨HT.out.1, rfl, HT.out.2.1, HT.out.2.2⟩⟩
end Go.Proofs.Ytkngppkchaadhaa

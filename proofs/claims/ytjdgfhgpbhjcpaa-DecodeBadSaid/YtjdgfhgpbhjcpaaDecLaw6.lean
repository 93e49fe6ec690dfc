/- The walk of DecodeBad. -/
import Derived.Test.YtjdgfhgpbhjcpaaDecLaw1
import Derived.Test.YtjdgfhgpbhjcpaaConvApp
set_option linter.unusedVariables false
set_option linter.unusedSimpArgs false
namespace Go.Proofs.Ytjdgfhgpbhjcpaa
open Go.RowKit De
namespace De
theorem u64_mod14 (a : Int) : ∃ i : Nat, i < 14 ∧ (IntKind.u64.wrap a).tmod 14 = (i : Int) := by
  have h0 : 0 ≤ IntKind.u64.wrap a := by unfold IntKind.wrap; simp [IntKind.bits, IntKind.signed]; omega
  have h1 := Int.tmod_nonneg 14 h0
  have h2 := Int.tmod_lt_of_pos (IntKind.u64.wrap a) (show (0 : Int) < 14 by omega)
  exact ⟨((IntKind.u64.wrap a).tmod 14).toNat, by omega, by omega⟩
/-- the strings, as the law lists them -/
def bsS : List Value := [Value.string { data := #[128] }, Value.string { data := #[191] }, Value.string { data := #[192] }, Value.string { data := #[193] }, Value.string { data := #[245] }, Value.string { data := #[255] }, Value.string { data := #[224, 159] }, Value.string { data := #[237, 160] }, Value.string { data := #[240, 143] }, Value.string { data := #[244, 144] }, Value.string { data := #[226] }, Value.string { data := #[226, 130] }, Value.string { data := #[240, 159, 152] }, Value.string { data := #[195] }]
def bsN : List Value := [Value.int .i64 1, Value.int .i64 1, Value.int .i64 1, Value.int .i64 1, Value.int .i64 1, Value.int .i64 1, Value.int .i64 1, Value.int .i64 1, Value.int .i64 1, Value.int .i64 1, Value.int .i64 1, Value.int .i64 2, Value.int .i64 3, Value.int .i64 1]
def bsM : List Value := [Value.bool false, Value.bool false, Value.bool false, Value.bool false, Value.bool false, Value.bool false, Value.bool true, Value.bool true, Value.bool true, Value.bool true, Value.bool true, Value.bool true, Value.bool true, Value.bool true]
theorem bad_case (S : List Int) (n : Nat) (m : Bool) (it : It) (h1 : ∀ x, one (S ++ 97 :: x) = ⟨65533, n, true, m, false⟩) (h2 : ∀ x, one (S.drop n ++ 97 :: x) = it) (hn : n ≤ S.length) (x : List Int) :
    ∃ L, all 0 (S ++ 97 :: x) = (0, ⟨65533, n, true, m, false⟩) :: (n, it) :: L := by
  have e1 : (⟨65533, n, true, m, false⟩ : It).n = n := rfl
  rw [all_cons 0 _ (by simp), h1, e1, Nat.zero_add, List.drop_append_of_le_length hn, all_cons n _ (by simp), h2]
  exact ⟨_, rfl⟩
/-- what is known of the i-th text -/
structure BadAt (i : Nat) (s : ByteArray) (n : Nat) (m : Bool) (it : It) : Prop where
  s1 : ∀ h, (bsS[i]'h) = .string s
  s2 : bsS[i]? = some (.string s)
  n2 : bsN[i]? = some (.int .i64 n)
  m2 : bsM[i]? = some (.bool m)
  size : 1 ≤ s.size ∧ s.size ≤ 3
  it1 : (it.r = 97 ∧ n = s.size) ∨ (it.r = 65533 ∧ it.bad = true ∧ n < s.size)
  all : ∀ x, ∃ L, all 0 (sb (s ++ ⟨#[97]⟩) ++ x) = (0, ⟨65533, n, true, m, false⟩) :: (n, it) :: L
theorem badAt : ∀ i : Nat, i < 14 → ∃ s n m it, BadAt i s n m it := by
  intro i hi
  have : i = 0 ∨ i = 1 ∨ i = 2 ∨ i = 3 ∨ i = 4 ∨ i = 5 ∨ i = 6 ∨ i = 7 ∨ i = 8 ∨ i = 9 ∨ i = 10 ∨ i = 11 ∨ i = 12 ∨ i = 13 := by omega
  rcases this with rfl | rfl | rfl | rfl | rfl | rfl | rfl | rfl | rfl | rfl | rfl | rfl | rfl | rfl
  · exact ⟨⟨#[128]⟩, 1, false, ⟨97, 1, false, false, false⟩, fun _ => rfl, rfl, rfl, rfl, by decide, by exact Or.inl ⟨rfl, rfl⟩, fun x => bad_case [128] 1 false ⟨97, 1, false, false, false⟩ (fun _ => rfl) (fun _ => rfl) (by decide) x⟩
  · exact ⟨⟨#[191]⟩, 1, false, ⟨97, 1, false, false, false⟩, fun _ => rfl, rfl, rfl, rfl, by decide, by exact Or.inl ⟨rfl, rfl⟩, fun x => bad_case [191] 1 false ⟨97, 1, false, false, false⟩ (fun _ => rfl) (fun _ => rfl) (by decide) x⟩
  · exact ⟨⟨#[192]⟩, 1, false, ⟨97, 1, false, false, false⟩, fun _ => rfl, rfl, rfl, rfl, by decide, by exact Or.inl ⟨rfl, rfl⟩, fun x => bad_case [192] 1 false ⟨97, 1, false, false, false⟩ (fun _ => rfl) (fun _ => rfl) (by decide) x⟩
  · exact ⟨⟨#[193]⟩, 1, false, ⟨97, 1, false, false, false⟩, fun _ => rfl, rfl, rfl, rfl, by decide, by exact Or.inl ⟨rfl, rfl⟩, fun x => bad_case [193] 1 false ⟨97, 1, false, false, false⟩ (fun _ => rfl) (fun _ => rfl) (by decide) x⟩
  · exact ⟨⟨#[245]⟩, 1, false, ⟨97, 1, false, false, false⟩, fun _ => rfl, rfl, rfl, rfl, by decide, by exact Or.inl ⟨rfl, rfl⟩, fun x => bad_case [245] 1 false ⟨97, 1, false, false, false⟩ (fun _ => rfl) (fun _ => rfl) (by decide) x⟩
  · exact ⟨⟨#[255]⟩, 1, false, ⟨97, 1, false, false, false⟩, fun _ => rfl, rfl, rfl, rfl, by decide, by exact Or.inl ⟨rfl, rfl⟩, fun x => bad_case [255] 1 false ⟨97, 1, false, false, false⟩ (fun _ => rfl) (fun _ => rfl) (by decide) x⟩
  · exact ⟨⟨#[224, 159]⟩, 1, true, ⟨65533, 1, true, false, false⟩, fun _ => rfl, rfl, rfl, rfl, by decide, by exact Or.inr ⟨rfl, rfl, by decide⟩, fun x => bad_case [224, 159] 1 true ⟨65533, 1, true, false, false⟩ (fun _ => rfl) (fun _ => rfl) (by decide) x⟩
  · exact ⟨⟨#[237, 160]⟩, 1, true, ⟨65533, 1, true, false, false⟩, fun _ => rfl, rfl, rfl, rfl, by decide, by exact Or.inr ⟨rfl, rfl, by decide⟩, fun x => bad_case [237, 160] 1 true ⟨65533, 1, true, false, false⟩ (fun _ => rfl) (fun _ => rfl) (by decide) x⟩
  · exact ⟨⟨#[240, 143]⟩, 1, true, ⟨65533, 1, true, false, false⟩, fun _ => rfl, rfl, rfl, rfl, by decide, by exact Or.inr ⟨rfl, rfl, by decide⟩, fun x => bad_case [240, 143] 1 true ⟨65533, 1, true, false, false⟩ (fun _ => rfl) (fun _ => rfl) (by decide) x⟩
  · exact ⟨⟨#[244, 144]⟩, 1, true, ⟨65533, 1, true, false, false⟩, fun _ => rfl, rfl, rfl, rfl, by decide, by exact Or.inr ⟨rfl, rfl, by decide⟩, fun x => bad_case [244, 144] 1 true ⟨65533, 1, true, false, false⟩ (fun _ => rfl) (fun _ => rfl) (by decide) x⟩
  · exact ⟨⟨#[226]⟩, 1, true, ⟨97, 1, false, false, false⟩, fun _ => rfl, rfl, rfl, rfl, by decide, by exact Or.inl ⟨rfl, rfl⟩, fun x => bad_case [226] 1 true ⟨97, 1, false, false, false⟩ (fun _ => rfl) (fun _ => rfl) (by decide) x⟩
  · exact ⟨⟨#[226, 130]⟩, 2, true, ⟨97, 1, false, false, false⟩, fun _ => rfl, rfl, rfl, rfl, by decide, by exact Or.inl ⟨rfl, rfl⟩, fun x => bad_case [226, 130] 2 true ⟨97, 1, false, false, false⟩ (fun _ => rfl) (fun _ => rfl) (by decide) x⟩
  · exact ⟨⟨#[240, 159, 152]⟩, 3, true, ⟨97, 1, false, false, false⟩, fun _ => rfl, rfl, rfl, rfl, by decide, by exact Or.inl ⟨rfl, rfl⟩, fun x => bad_case [240, 159, 152] 3 true ⟨97, 1, false, false, false⟩ (fun _ => rfl) (fun _ => rfl) (by decide) x⟩
  · exact ⟨⟨#[195]⟩, 1, true, ⟨97, 1, false, false, false⟩, fun _ => rfl, rfl, rfl, rfl, by decide, by exact Or.inl ⟨rfl, rfl⟩, fun x => bad_case [195] 1 true ⟨97, 1, false, false, false⟩ (fun _ => rfl) (fun _ => rfl) (by decide) x⟩
end De
theorem Row.get0 {w : World} {b n c : Nat} {cs : List Value} (h : Row w (.slice (some ⟨b, 0, none⟩) n c) n cs) {i : Nat} {u : Value} (hi : cs[i]? = some u) (hn : 0 < n) : w.cell? ⟨b, i, none⟩ = some u := by
  obtain ⟨o, cap, e, _, _, h3⟩ := h
  simp only [Value.slice.injEq, true_and] at e
  obtain ⟨rfl, rfl⟩ := e
  rcases h3 with ⟨h0, _⟩ | ⟨b', off, e2, _, hc⟩
  · omega
  · simp only [Option.some.injEq, Addr.mk.injEq, and_true] at e2
    obtain ⟨rfl, rfl⟩ := e2
    have := hc i u hi
    rwa [Nat.zero_add] at this

set_option maxHeartbeats 1500000 in
set_option maxRecDepth 1000000 in
theorem decodeBad_walk (a : Int) (bs : List Int) (v : Value) (w : World) (haw : (Lit.int .i64 a).wf = true) (hr : Row w v bs.length (bs.map (Value.int .u8))) (hu : ∀ x ∈ bs, 0 ≤ x ∧ x < 256) :
    Calls Try.prog 7 #[.int .i64 a, v] w fun e w' => e = .returned (.bool true) ∧ Below w.heap.size w w' := by
  clear haw
  obtain ⟨i0, hi, hz0, hz1, hz2⟩ := infoByte
  have hmax := hr.le
  obtain ⟨ov, cv, rfl⟩ : ∃ o c, v = .slice o bs.length c := by obtain ⟨o, c, rfl, _⟩ := hr; exact ⟨_, _, rfl⟩
  have HR := Lib.hid hr
  have HU := Lib.hid hu
  clear hr hu
  obtain ⟨i, hi14, hm⟩ := u64_mod14 a
  obtain ⟨s, n, m, it, hbad⟩ := badAt i hi14
  have hs := hbad.s1
  unfold bsS at hs
  have HBD := Lib.hid hbad
  have hsz := hbad.size
  clear hbad
  by_cases hlen : 100 < bs.length
  · have g1 : decide (100 < (bs.length : Int)) = true := by simp <;> omega
    go_enter Try.func7, Try.ntmps7
    go_wp2_with (go_at_call 9; refine (told_any _).mono ?_; rintro e w1 ⟨rfl, hb1⟩)
    go_ret
    exact ⟨rfl, bel_then (bel_new (bel_new (bel_new (Below.refl _ _) _) _) _) hb1⟩
  have g1 : decide (100 < (bs.length : Int)) = false := by simp <;> omega
  go_enter Try.func7, Try.ntmps7
  go_wp2_with fail
  clear hs
  obtain ⟨w3, hw3⟩ : ∃ w3 : World, w3 = ((w.alloc (.cells bsS.toArray 9)).alloc (.cells bsN.toArray 3)).alloc (.cells bsM.toArray 4) := ⟨_, rfl⟩
  have hB3 : Below w.heap.size w w3 := by rw [hw3]; exact bel_new (bel_new (bel_new (Below.refl _ _) _) _) _
  have rS : Row w3 (.slice (some ⟨w.heap.size, 0, none⟩) 14 14) 14 bsS := by
    rw [hw3]; exact (Row.lit w 9 bsS 14 rfl (by decide)).below (bel_new (bel_new (Below.refl _ _) _) _)
  have rN : Row w3 (.slice (some ⟨w.heap.size + 1, 0, none⟩) 14 14) 14 bsN := by
    have := (Row.lit (w.alloc (.cells bsS.toArray 9)) 3 bsN 14 rfl (by decide)).below (bel_new (Below.refl _ _) (.cells bsM.toArray 4))
    rw [hw3]; simpa using this
  have rM : Row w3 (.slice (some ⟨w.heap.size + 1 + 1, 0, none⟩) 14 14) 14 bsM := by
    have := Row.lit ((w.alloc (.cells bsS.toArray 9)).alloc (.cells bsN.toArray 3)) 4 bsM 14 rfl (by decide)
    rw [hw3]; simpa using this
  unfold bsS bsN bsM at hw3
  rw [← hw3]
  clear hw3
  obtain ⟨t, ht⟩ : ∃ t : ByteArray, t = s ++ ⟨#[97]⟩ := ⟨_, rfl⟩
  have hall := HBD.out.all bs
  have htz : t.size = s.size + 1 := by rw [ht]; simp; rfl
  rw [← ht] at hall ⊢
  have hcv := Lib.run_convert_string_bytes (P := Try.prog) w3 9 22 5 t Try.underlying9 Try.underlying22 Try.underlying5
  have H3 := Lib.hid (And.intro hB3 (And.intro rS (And.intro rN (And.intro rM (And.intro hall htz)))))
  clear hB3 rS rN rM hall ht htz
  rw [hcv]
  clear hcv
  have htl : t.size + bs.length ≤ 200 := by have := H3.out.2.2.2.2.2; omega
  go_wp2_with (at_builtin; refine wpList_append_conv w3 t rfl _ _ 22 5 rfl i0 Try.underlying22 hi hz0 hz1 hz2 rfl _ _ _ rfl ((HR.out.below H3.out.1).below (convW_below w3 5 t)) (by simp) (ints_one _ _) (by omega) ?_; intro v5 w5 hrow5 hb5; have H5 := Lib.hid (And.intro hrow5 hb5); clear hrow5 hb5)
  have hsbl : (sb t ++ bs).length = t.size + bs.length := by simp [sb]
  have hsbu : ∀ x ∈ sb t ++ bs, 0 ≤ x ∧ x < 256 := fun x hx => by
    rcases List.mem_append.1 hx with h | h
    · obtain ⟨y, _, rfl⟩ := List.mem_map.1 h
      have := y.toNat_lt
      omega
    · exact HU.out x h
  have hrw : Row w5 v5 (sb t ++ bs).length ((sb t ++ bs).map (Value.int .u8)) := by rw [hsbl, List.map_append]; exact H5.out.1
  have hal := all_any (sb t ++ bs) v5 w5 hrw hsbu (by omega)
  obtain ⟨L, hL⟩ := H3.out.2.2.2.2.1
  rw [hL] at hal
  have hLl : ((0, (⟨65533, n, true, m, false⟩ : It)) :: (n, it) :: L).length = L.length + 2 := by simp
  have hL2 := all_len 0 (sb t ++ bs)
  rw [hL, hsbl, hLl] at hL2
  rw [hLl] at hal
  have HA := Lib.hid (And.intro hal hL2)
  have hLb : L.length ≤ 200 := by omega
  clear hsbl hsbu hrw hal hL hL2 hLl
  refine HA.out.1.mono ?_
  rintro e w6 ⟨u6, rfl, hown6, hb6⟩
  obtain ⟨g6, c6, rfl⟩ := ownsRow_form' hown6 (by omega)
  have hB6 : Below w.heap.size w w6 := (H3.out.1.trans (H5.out.2.mono H3.out.1.size)).trans (hb6.mono (H3.out.1.trans (H5.out.2.mono H3.out.1.size)).size)
  have hB36 : Below w3.heap.size w3 w6 := H5.out.2.trans (hb6.mono H5.out.2.size)
  have hl1 : decide (1 < (L.length : Int) + 2) = true := by simp <;> omega
  have H6 := Lib.hid (And.intro hown6 (And.intro hB6 hB36))
  clear hown6 hb6 hB6 hB36
  have hE : ∀ w : World, (binOp .eql 36 (.agg #[.int .i32 65533, .int .i64 0, .int .i64 n, .bool true, .bool m]) (.agg #[.int .i32 65533, .int .i64 0, .int .i64 n, .bool true, .bool m])).run Try.prog w = .ok (.bool true) w := by
    intro w; rw [eqlI]; simp
  have hG := fun op x y (w : World) => guardI op x y 65533 0 n 65533 0 n true m true m w
  obtain ⟨ir, inn, ib, im, io⟩ := it
  have j0 : (0 : Int) < (L.length : Int) + 2 := by omega
  have j1 : (1 : Int) < (L.length : Int) + 2 := by omega
  have j2 : (i : Int) < 14 := by omega
  have j3 : (0 : Int) ≤ (i : Int) := by omega
  have hit := HBD.out.it1
  simp only at hit
  go_wp2_with fail
  rcases hit with ⟨rfl, hns⟩ | ⟨rfl, rfl, hns⟩
  · clear hns
    have hS : ∀ w7 : World, Below w6.heap.size w6 w7 → (fun w' : World => w'.cell? ⟨w.heap.size, i, none⟩ = some (.string s) ∧ w'.cell? ⟨w.heap.size + 1, i, none⟩ = some (.int .i64 n) ∧ w'.cell? ⟨w.heap.size + 1 + 1, i, none⟩ = some (.bool m) ∧ w'.cell? ⟨g6, 0, none⟩ = some (.int .i32 65533) ∧ w'.cell? ⟨g6, 1, none⟩ = some (.int .i64 0) ∧ w'.cell? ⟨g6, 2, none⟩ = some (.int .i64 n) ∧ w'.cell? ⟨g6, 3, none⟩ = some (.bool true) ∧ w'.cell? ⟨g6, 4, none⟩ = some (.bool m) ∧ w'.cell? ⟨g6, 5, none⟩ = some (.int .i32 97)) w7 := fun w7 hB67 => by
      have hB37 := H6.out.2.2.trans (hB67.mono H6.out.2.2.size)
      have k6 := (owns_below H6.out.1 hB67).cells (g := g6) rfl
      exact ⟨(H3.out.2.1.below hB37).get0 HBD.out.s2 (by decide), (H3.out.2.2.1.below hB37).get0 HBD.out.n2 (by decide), (H3.out.2.2.2.1.below hB37).get0 HBD.out.m2 (by decide), cell_add k6 0 _ rfl, cell_add k6 1 _ rfl, (by have := cell_add k6 2 _ rfl; simpa using this), cell_add k6 3 _ rfl, cell_add k6 4 _ rfl, cell_add k6 5 _ rfl⟩
    have HS := Lib.hid hS
    clear hS
    have hS0 := HS.out w6.drew (Below.refl _ _).drew
    simp only at hS0
    refine wp_region_held_drew (S := fun w' => w'.cell? ⟨w.heap.size, i, none⟩ = some (.string s) ∧ w'.cell? ⟨w.heap.size + 1, i, none⟩ = some (.int .i64 n) ∧ w'.cell? ⟨w.heap.size + 1 + 1, i, none⟩ = some (.bool m) ∧ w'.cell? ⟨g6, 0, none⟩ = some (.int .i32 65533) ∧ w'.cell? ⟨g6, 1, none⟩ = some (.int .i64 0) ∧ w'.cell? ⟨g6, 2, none⟩ = some (.int .i64 n) ∧ w'.cell? ⟨g6, 3, none⟩ = some (.bool true) ∧ w'.cell? ⟨g6, 4, none⟩ = some (.bool m) ∧ w'.cell? ⟨g6, 5, none⟩ = some (.int .i32 97)) (by kernel_rfl) (by first | exact hS0 | exact HS.out _ (Below.refl _ _)) (fun _ => ?_)
    refine wpAnyH_ready (rs := [0]) (by kernel_rfl) (by simp) ?_
    refine AllReadyH.cons rfl (fun K hK => ?_) AllReadyH.nil
    go_simp
    refine (told_any _).mono ?_
    rintro e w7 ⟨rfl, hb7⟩
    have hB67 : Below w6.heap.size w6 w7 := bel_then (Below.refl _ _).drew hb7
    have hS7 := HS.out w7 hB67
    simp only at hS7
    have H7 := H6.out.2.1.trans (hB67.mono H6.out.2.1.size)
    clear hS0
    refine hK.out _ _ hS7 (fun _ => ?_)
    clear hK K
    try simp only [Act.put, List.setIfInBounds_toArray, List.set_cons_zero, List.set_cons_succ, List.getElem_toArray, List.getElem_cons_succ, List.getElem_cons_zero]
    refine wpAnyH_take (i := 1) (v := ?_) rfl (by kernel_rfl) (by kernel_rfl) (by kernel_rfl) (fun _ _ _ h => h) (Or.inl ⟨by rfl, ?_⟩) hS7 ?_
    rotate_left
    · intro w hSw; obtain ⟨c1, c2, c3, a0, a1, a2, a3, a4, a5⟩ := hSw; go_simp; try with_reducible rfl
    try simp only [Act.put, List.setIfInBounds_toArray, List.set_cons_zero, List.set_cons_succ, List.getElem_toArray, List.getElem_cons_succ, List.getElem_cons_zero]
    refine wpAnyH_take (i := 2) (v := ?_) rfl (by kernel_rfl) (by kernel_rfl) (by kernel_rfl) (fun _ _ _ h => h) (Or.inl ⟨by rfl, ?_⟩) hS7 ?_
    rotate_left
    · intro w hSw; obtain ⟨c1, c2, c3, a0, a1, a2, a3, a4, a5⟩ := hSw; go_simp; try with_reducible rfl
    try simp only [Act.put, List.setIfInBounds_toArray, List.set_cons_zero, List.set_cons_succ, List.getElem_toArray, List.getElem_cons_succ, List.getElem_cons_zero]
    refine wpAnyH_take (i := 3) (v := ?_) rfl (by kernel_rfl) (by kernel_rfl) (by kernel_rfl) (fun _ _ _ h => h) (Or.inl ⟨by rfl, ?_⟩) hS7 ?_
    rotate_left
    · intro w hSw; obtain ⟨c1, c2, c3, a0, a1, a2, a3, a4, a5⟩ := hSw; go_simp; try with_reducible rfl
    try simp only [Act.put, List.setIfInBounds_toArray, List.set_cons_zero, List.set_cons_succ, List.getElem_toArray, List.getElem_cons_succ, List.getElem_cons_zero]
    refine wpAnyH_take (i := 4) (v := ?_) rfl (by kernel_rfl) (by kernel_rfl) (by kernel_rfl) (fun _ _ _ h => h) (Or.inl ⟨by rfl, ?_⟩) hS7 ?_
    rotate_left
    · intro w hSw; obtain ⟨c1, c2, c3, a0, a1, a2, a3, a4, a5⟩ := hSw; go_simp; try with_reducible rfl
    try simp only [Act.put, List.setIfInBounds_toArray, List.set_cons_zero, List.set_cons_succ, List.getElem_toArray, List.getElem_cons_succ, List.getElem_cons_zero]
    refine wpAnyH_take (i := 5) (v := ?_) rfl (by kernel_rfl) (by kernel_rfl) (by kernel_rfl) (fun _ _ _ h => h) (Or.inl ⟨by rfl, ?_⟩) hS7 ?_
    rotate_left
    · intro w hSw; obtain ⟨c1, c2, c3, a0, a1, a2, a3, a4, a5⟩ := hSw; go_simp; try with_reducible rfl
    try simp only [Act.put, List.setIfInBounds_toArray, List.set_cons_zero, List.set_cons_succ, List.getElem_toArray, List.getElem_cons_succ, List.getElem_cons_zero]
    refine wpAnyH_take (i := 6) (v := ?_) rfl (by kernel_rfl) (by kernel_rfl) (by kernel_rfl) (fun _ _ _ h => h) (Or.inl ⟨by rfl, ?_⟩) hS7 ?_
    rotate_left
    · intro w hSw; obtain ⟨c1, c2, c3, a0, a1, a2, a3, a4, a5⟩ := hSw; go_simp; try with_reducible rfl
    try simp only [Act.put, List.setIfInBounds_toArray, List.set_cons_zero, List.set_cons_succ, List.getElem_toArray, List.getElem_cons_succ, List.getElem_cons_zero]
    refine wpAnyH_take (i := 7) (v := ?_) rfl (by kernel_rfl) (by kernel_rfl) (by kernel_rfl) (fun _ _ _ h => h) (Or.inl ⟨by rfl, ?_⟩) hS7 ?_
    rotate_left
    · intro w hSw; obtain ⟨c1, c2, c3, a0, a1, a2, a3, a4, a5⟩ := hSw; go_simp; try with_reducible rfl
    try simp only [Act.put, List.setIfInBounds_toArray, List.set_cons_zero, List.set_cons_succ, List.getElem_toArray, List.getElem_cons_succ, List.getElem_cons_zero]
    refine wpAnyH_take (i := 8) (v := ?_) rfl (by kernel_rfl) (by kernel_rfl) (by kernel_rfl) (fun _ _ _ h => h) (Or.inl ⟨by rfl, ?_⟩) hS7 ?_
    rotate_left
    · intro w hSw; obtain ⟨c1, c2, c3, a0, a1, a2, a3, a4, a5⟩ := hSw; go_simp; try with_reducible rfl
    try simp only [Act.put, List.setIfInBounds_toArray, List.set_cons_zero, List.set_cons_succ, List.getElem_toArray, List.getElem_cons_succ, List.getElem_cons_zero]
    refine wpAnyH_take (i := 9) (v := ?_) rfl (by kernel_rfl) (by kernel_rfl) (by kernel_rfl) (fun _ _ _ h => h) (Or.inl ⟨by rfl, ?_⟩) hS7 ?_
    rotate_left
    · intro w hSw; obtain ⟨c1, c2, c3, a0, a1, a2, a3, a4, a5⟩ := hSw; go_simp; try with_reducible rfl
    try simp only [Act.put, List.setIfInBounds_toArray, List.set_cons_zero, List.set_cons_succ, List.getElem_toArray, List.getElem_cons_succ, List.getElem_cons_zero]
    refine wpAnyH_take (i := 10) (v := ?_) rfl (by kernel_rfl) (by kernel_rfl) (by kernel_rfl) (fun _ _ _ h => h) (Or.inl ⟨by rfl, ?_⟩) hS7 ?_
    rotate_left
    · intro w hSw; obtain ⟨c1, c2, c3, a0, a1, a2, a3, a4, a5⟩ := hSw; go_simp; try with_reducible rfl
    try simp only [Act.put, List.setIfInBounds_toArray, List.set_cons_zero, List.set_cons_succ, List.getElem_toArray, List.getElem_cons_succ, List.getElem_cons_zero]
    refine wpAnyH_take (i := 11) (v := ?_) rfl (by kernel_rfl) (by kernel_rfl) (by kernel_rfl) (fun _ _ _ h => h) (Or.inl ⟨by rfl, ?_⟩) hS7 ?_
    rotate_left
    · intro w hSw; obtain ⟨c1, c2, c3, a0, a1, a2, a3, a4, a5⟩ := hSw; go_simp; try with_reducible rfl
    try simp only [Act.put, List.setIfInBounds_toArray, List.set_cons_zero, List.set_cons_succ, List.getElem_toArray, List.getElem_cons_succ, List.getElem_cons_zero]
    refine wpAnyH_take (i := 12) (v := ?_) rfl (by kernel_rfl) (by kernel_rfl) (by kernel_rfl) (fun _ _ _ h => h) (Or.inl ⟨by rfl, ?_⟩) hS7 ?_
    rotate_left
    · intro w hSw; obtain ⟨c1, c2, c3, a0, a1, a2, a3, a4, a5⟩ := hSw; go_simp; try with_reducible rfl
    try simp only [Act.put, List.setIfInBounds_toArray, List.set_cons_zero, List.set_cons_succ, List.getElem_toArray, List.getElem_cons_succ, List.getElem_cons_zero]
    refine wpAnyH_take (i := 13) (v := ?_) rfl (by kernel_rfl) (by kernel_rfl) (by kernel_rfl) (fun _ _ _ h => h) (Or.inl ⟨by rfl, ?_⟩) hS7 ?_
    rotate_left
    · intro w hSw; obtain ⟨c1, c2, c3, a0, a1, a2, a3, a4, a5⟩ := hSw; go_simp; try with_reducible rfl
    try simp only [Act.put, List.setIfInBounds_toArray, List.set_cons_zero, List.set_cons_succ, List.getElem_toArray, List.getElem_cons_succ, List.getElem_cons_zero]
    refine wpAnyH_take (i := 14) (v := ?_) rfl (by kernel_rfl) (by kernel_rfl) (by kernel_rfl) (fun _ _ _ h => h) (Or.inl ⟨by rfl, ?_⟩) hS7 ?_
    rotate_left
    · intro w hSw; obtain ⟨c1, c2, c3, a0, a1, a2, a3, a4, a5⟩ := hSw; go_simp; try with_reducible rfl
    try simp only [Act.put, List.setIfInBounds_toArray, List.set_cons_zero, List.set_cons_succ, List.getElem_toArray, List.getElem_cons_succ, List.getElem_cons_zero]
    refine wpAnyH_take (i := 15) (v := ?_) rfl (by kernel_rfl) (by kernel_rfl) (by kernel_rfl) (fun _ _ _ h => h) (Or.inl ⟨by rfl, ?_⟩) hS7 ?_
    rotate_left
    · intro w hSw; obtain ⟨c1, c2, c3, a0, a1, a2, a3, a4, a5⟩ := hSw; go_simp; try with_reducible rfl
    try simp only [Act.put, List.setIfInBounds_toArray, List.set_cons_zero, List.set_cons_succ, List.getElem_toArray, List.getElem_cons_succ, List.getElem_cons_zero]
    refine wpAnyH_take (i := 16) (v := ?_) rfl (by kernel_rfl) (by kernel_rfl) (by kernel_rfl) (fun _ _ _ h => h) (Or.inl ⟨by rfl, ?_⟩) hS7 ?_
    rotate_left
    · intro w hSw; obtain ⟨c1, c2, c3, a0, a1, a2, a3, a4, a5⟩ := hSw; go_simp; try with_reducible rfl
    try simp only [Act.put, List.setIfInBounds_toArray, List.set_cons_zero, List.set_cons_succ, List.getElem_toArray, List.getElem_cons_succ, List.getElem_cons_zero]
    refine wpAnyH_take (i := 17) (v := ?_) rfl (by kernel_rfl) (by kernel_rfl) (by kernel_rfl) (fun _ _ _ h => h) (Or.inl ⟨by rfl, ?_⟩) hS7 ?_
    rotate_left
    · intro w hSw; obtain ⟨c1, c2, c3, a0, a1, a2, a3, a4, a5⟩ := hSw; go_simp; try with_reducible rfl
    try simp only [Act.put, List.setIfInBounds_toArray, List.set_cons_zero, List.set_cons_succ, List.getElem_toArray, List.getElem_cons_succ, List.getElem_cons_zero]
    refine wpAnyH_take (i := 18) (v := ?_) rfl (by kernel_rfl) (by kernel_rfl) (by kernel_rfl) (fun _ _ _ h => h) (Or.inl ⟨by rfl, ?_⟩) hS7 ?_
    rotate_left
    · intro w hSw; obtain ⟨c1, c2, c3, a0, a1, a2, a3, a4, a5⟩ := hSw; go_simp; try with_reducible rfl
    try simp only [Act.put, List.setIfInBounds_toArray, List.set_cons_zero, List.set_cons_succ, List.getElem_toArray, List.getElem_cons_succ, List.getElem_cons_zero]
    refine wpAnyH_take (i := 19) (v := ?_) rfl (by kernel_rfl) (by kernel_rfl) (by kernel_rfl) (fun _ _ _ h => h) (Or.inl ⟨by rfl, ?_⟩) hS7 ?_
    rotate_left
    · intro w hSw; obtain ⟨c1, c2, c3, a0, a1, a2, a3, a4, a5⟩ := hSw; go_simp; try with_reducible rfl
    try simp only [Act.put, List.setIfInBounds_toArray, List.set_cons_zero, List.set_cons_succ, List.getElem_toArray, List.getElem_cons_succ, List.getElem_cons_zero]
    refine wpAnyH_take (i := 20) (v := ?_) rfl (by kernel_rfl) (by kernel_rfl) (by kernel_rfl) (fun _ _ _ h => h) (Or.inl ⟨by rfl, ?_⟩) hS7 ?_
    rotate_left
    · intro w hSw; obtain ⟨c1, c2, c3, a0, a1, a2, a3, a4, a5⟩ := hSw; go_simp; try with_reducible rfl
    try simp only [Act.put, List.setIfInBounds_toArray, List.set_cons_zero, List.set_cons_succ, List.getElem_toArray, List.getElem_cons_succ, List.getElem_cons_zero]
    refine wpAnyH_take (i := 21) (v := ?_) rfl (by kernel_rfl) (by kernel_rfl) (by kernel_rfl) (fun _ _ _ h => h) (Or.inl ⟨by rfl, ?_⟩) hS7 ?_
    rotate_left
    · intro w hSw; obtain ⟨c1, c2, c3, a0, a1, a2, a3, a4, a5⟩ := hSw; go_simp; try with_reducible rfl
    try simp only [Act.put, List.setIfInBounds_toArray, List.set_cons_zero, List.set_cons_succ, List.getElem_toArray, List.getElem_cons_succ, List.getElem_cons_zero]
    refine wpAnyH_take (i := 22) (v := ?_) rfl (by kernel_rfl) (by kernel_rfl) (by kernel_rfl) (fun _ _ _ h => h) (Or.inl ⟨by rfl, ?_⟩) hS7 ?_
    rotate_left
    · intro w hSw; obtain ⟨c1, c2, c3, a0, a1, a2, a3, a4, a5⟩ := hSw; go_simp; try with_reducible rfl
    try simp only [Act.put, List.setIfInBounds_toArray, List.set_cons_zero, List.set_cons_succ, List.getElem_toArray, List.getElem_cons_succ, List.getElem_cons_zero]
    refine wpAnyH_take (i := 23) (v := ?_) rfl (by kernel_rfl) (by kernel_rfl) (by kernel_rfl) (fun _ _ _ h => h) (Or.inl ⟨by rfl, ?_⟩) hS7 ?_
    rotate_left
    · intro w hSw; obtain ⟨c1, c2, c3, a0, a1, a2, a3, a4, a5⟩ := hSw; go_simp; try with_reducible rfl
    try simp only [Act.put, List.setIfInBounds_toArray, List.set_cons_zero, List.set_cons_succ, List.getElem_toArray, List.getElem_cons_succ, List.getElem_cons_zero]
    refine wpAnyH_take (i := 24) (v := ?_) rfl (by kernel_rfl) (by kernel_rfl) (by kernel_rfl) (fun _ _ _ h => h) (Or.inl ⟨by rfl, ?_⟩) hS7 ?_
    rotate_left
    · intro w hSw; obtain ⟨c1, c2, c3, a0, a1, a2, a3, a4, a5⟩ := hSw; go_simp; try with_reducible rfl
    try simp only [Act.put, List.setIfInBounds_toArray, List.set_cons_zero, List.set_cons_succ, List.getElem_toArray, List.getElem_cons_succ, List.getElem_cons_zero]
    refine wpAnyH_take (i := 25) (v := ?_) rfl (by kernel_rfl) (by kernel_rfl) (by kernel_rfl) (fun _ _ _ h => h) (Or.inl ⟨by rfl, ?_⟩) hS7 ?_
    rotate_left
    · intro w hSw; obtain ⟨c1, c2, c3, a0, a1, a2, a3, a4, a5⟩ := hSw; go_simp; try with_reducible rfl
    try simp only [Act.put, List.setIfInBounds_toArray, List.set_cons_zero, List.set_cons_succ, List.getElem_toArray, List.getElem_cons_succ, List.getElem_cons_zero]
    refine wpAnyH_take (i := 26) (v := ?_) rfl (by kernel_rfl) (by kernel_rfl) (by kernel_rfl) (fun _ _ _ h => h) (Or.inl ⟨by rfl, ?_⟩) hS7 ?_
    rotate_left
    · intro w hSw; obtain ⟨c1, c2, c3, a0, a1, a2, a3, a4, a5⟩ := hSw; go_simp; try with_reducible rfl
    try simp only [Act.put, List.setIfInBounds_toArray, List.set_cons_zero, List.set_cons_succ, List.getElem_toArray, List.getElem_cons_succ, List.getElem_cons_zero]
    refine wpAnyH_take (i := 27) (v := ?_) rfl (by kernel_rfl) (by kernel_rfl) (by kernel_rfl) (fun _ _ _ h => h) (Or.inl ⟨by rfl, ?_⟩) hS7 ?_
    rotate_left
    · intro w hSw; obtain ⟨c1, c2, c3, a0, a1, a2, a3, a4, a5⟩ := hSw; go_simp; try with_reducible rfl
    try simp only [Act.put, List.setIfInBounds_toArray, List.set_cons_zero, List.set_cons_succ, List.getElem_toArray, List.getElem_cons_succ, List.getElem_cons_zero]
    refine wpAnyH_take (i := 28) (v := undef) rfl (by kernel_rfl) (by kernel_rfl) (by kernel_rfl) (fun _ _ _ h => h) (Or.inr ⟨by rfl, rfl⟩) hS7 ?_
    try simp only [Act.put, List.setIfInBounds_toArray, List.set_cons_zero, List.set_cons_succ, List.getElem_toArray, List.getElem_cons_succ, List.getElem_cons_zero]
    refine wpAnyH_take (i := 29) (v := undef) rfl (by kernel_rfl) (by kernel_rfl) (by kernel_rfl) (fun _ _ _ h => h) (Or.inr ⟨by rfl, rfl⟩) hS7 ?_
    try simp only [Act.put, List.setIfInBounds_toArray, List.set_cons_zero, List.set_cons_succ, List.getElem_toArray, List.getElem_cons_succ, List.getElem_cons_zero]
    refine wpAnyH_take (i := 30) (v := undef) rfl (by kernel_rfl) (by kernel_rfl) (by kernel_rfl) (fun _ _ _ h => h) (Or.inr ⟨by rfl, rfl⟩) hS7 ?_
    try simp only [Act.put, List.setIfInBounds_toArray, List.set_cons_zero, List.set_cons_succ, List.getElem_toArray, List.getElem_cons_succ, List.getElem_cons_zero]
    refine wpAnyH_take (i := 31) (v := undef) rfl (by kernel_rfl) (by kernel_rfl) (by kernel_rfl) (fun _ _ _ h => h) (Or.inr ⟨by rfl, rfl⟩) hS7 ?_
    try simp only [Act.put, List.setIfInBounds_toArray, List.set_cons_zero, List.set_cons_succ, List.getElem_toArray, List.getElem_cons_succ, List.getElem_cons_zero]
    refine wpAnyH_take (i := 32) (v := undef) rfl (by kernel_rfl) (by kernel_rfl) (by kernel_rfl) (fun _ _ _ h => h) (Or.inr ⟨by rfl, rfl⟩) hS7 ?_
    try simp only [Act.put, List.setIfInBounds_toArray, List.set_cons_zero, List.set_cons_succ, List.getElem_toArray, List.getElem_cons_succ, List.getElem_cons_zero]
    refine wpAnyH_take (i := 33) (v := undef) rfl (by kernel_rfl) (by kernel_rfl) (by kernel_rfl) (fun _ _ _ h => h) (Or.inr ⟨by rfl, rfl⟩) hS7 ?_
    try simp only [Act.put, List.setIfInBounds_toArray, List.set_cons_zero, List.set_cons_succ, List.getElem_toArray, List.getElem_cons_succ, List.getElem_cons_zero]
    refine wpAnyH_take (i := 34) (v := undef) rfl (by kernel_rfl) (by kernel_rfl) (by kernel_rfl) (fun _ _ _ h => h) (Or.inr ⟨by rfl, rfl⟩) hS7 ?_
    try simp only [Act.put, List.setIfInBounds_toArray, List.set_cons_zero, List.set_cons_succ, List.getElem_toArray, List.getElem_cons_succ, List.getElem_cons_zero]
    refine wpAnyH_take (i := 35) (v := undef) rfl (by kernel_rfl) (by kernel_rfl) (by kernel_rfl) (fun _ _ _ h => h) (Or.inr ⟨by rfl, rfl⟩) hS7 ?_
    try simp only [Act.put, List.setIfInBounds_toArray, List.set_cons_zero, List.set_cons_succ, List.getElem_toArray, List.getElem_cons_succ, List.getElem_cons_zero]
    refine wpAnyH_take (i := 36) (v := undef) rfl (by kernel_rfl) (by kernel_rfl) (by kernel_rfl) (fun _ _ _ h => h) (Or.inr ⟨by rfl, rfl⟩) hS7 ?_
    try simp only [Act.put, List.setIfInBounds_toArray, List.set_cons_zero, List.set_cons_succ, List.getElem_toArray, List.getElem_cons_succ, List.getElem_cons_zero]
    refine wpAnyH_take (i := 37) (v := undef) rfl (by kernel_rfl) (by kernel_rfl) (by kernel_rfl) (fun _ _ _ h => h) (Or.inr ⟨by rfl, rfl⟩) hS7 ?_
    try simp only [Act.put, List.setIfInBounds_toArray, List.set_cons_zero, List.set_cons_succ, List.getElem_toArray, List.getElem_cons_succ, List.getElem_cons_zero]
    refine wpAnyH_take (i := 38) (v := undef) rfl (by kernel_rfl) (by kernel_rfl) (by kernel_rfl) (fun _ _ _ h => h) (Or.inr ⟨by rfl, rfl⟩) hS7 ?_
    try simp only [Act.put, List.setIfInBounds_toArray, List.set_cons_zero, List.set_cons_succ, List.getElem_toArray, List.getElem_cons_succ, List.getElem_cons_zero]
    refine wpAnyH_take (i := 39) (v := undef) rfl (by kernel_rfl) (by kernel_rfl) (by kernel_rfl) (fun _ _ _ h => h) (Or.inr ⟨by rfl, rfl⟩) hS7 ?_
    try simp only [Act.put, List.setIfInBounds_toArray, List.set_cons_zero, List.set_cons_succ, List.getElem_toArray, List.getElem_cons_succ, List.getElem_cons_zero]
    refine wpAnyH_take (i := 40) (v := undef) rfl (by kernel_rfl) (by kernel_rfl) (by kernel_rfl) (fun _ _ _ h => h) (Or.inr ⟨by rfl, rfl⟩) hS7 ?_
    try simp only [Act.put, List.setIfInBounds_toArray, List.set_cons_zero, List.set_cons_succ, List.getElem_toArray, List.getElem_cons_succ, List.getElem_cons_zero]
    refine wpAnyH_take (i := 41) (v := undef) rfl (by kernel_rfl) (by kernel_rfl) (by kernel_rfl) (fun _ _ _ h => h) (Or.inr ⟨by rfl, rfl⟩) hS7 ?_
    try simp only [Act.put, List.setIfInBounds_toArray, List.set_cons_zero, List.set_cons_succ, List.getElem_toArray, List.getElem_cons_succ, List.getElem_cons_zero]
    refine wpAnyH_take (i := 42) (v := undef) rfl (by kernel_rfl) (by kernel_rfl) (by kernel_rfl) (fun _ _ _ h => h) (Or.inr ⟨by rfl, rfl⟩) hS7 ?_
    try simp only [Act.put, List.setIfInBounds_toArray, List.set_cons_zero, List.set_cons_succ, List.getElem_toArray, List.getElem_cons_succ, List.getElem_cons_zero]
    refine wpAnyH_take (i := 43) (v := undef) rfl (by kernel_rfl) (by kernel_rfl) (by kernel_rfl) (fun _ _ _ h => h) (Or.inr ⟨by rfl, rfl⟩) hS7 ?_
    try simp only [Act.put, List.setIfInBounds_toArray, List.set_cons_zero, List.set_cons_succ, List.getElem_toArray, List.getElem_cons_succ, List.getElem_cons_zero]
    refine wpAnyH_take (i := 44) (v := ?_) rfl (by kernel_rfl) (by kernel_rfl) (by kernel_rfl) (fun _ _ _ h => h) (Or.inl ⟨by rfl, ?_⟩) hS7 ?_
    rotate_left
    · intro w hSw; obtain ⟨c1, c2, c3, a0, a1, a2, a3, a4, a5⟩ := hSw; go_simp; try with_reducible rfl
    try simp only [Act.put, List.setIfInBounds_toArray, List.set_cons_zero, List.set_cons_succ, List.getElem_toArray, List.getElem_cons_succ, List.getElem_cons_zero]
    refine wpAnyH_take (i := 45) (v := ?_) rfl (by kernel_rfl) (by kernel_rfl) (by kernel_rfl) (fun _ _ _ h => h) (Or.inl ⟨by rfl, ?_⟩) hS7 ?_
    rotate_left
    · intro w hSw; obtain ⟨c1, c2, c3, a0, a1, a2, a3, a4, a5⟩ := hSw; go_simp; try with_reducible rfl
    try simp only [Act.put, List.setIfInBounds_toArray, List.set_cons_zero, List.set_cons_succ, List.getElem_toArray, List.getElem_cons_succ, List.getElem_cons_zero]
    refine wpAnyH_take (i := 46) (v := ?_) rfl (by kernel_rfl) (by kernel_rfl) (by kernel_rfl) (fun _ _ _ h => h) (Or.inl ⟨by rfl, ?_⟩) hS7 ?_
    rotate_left
    · intro w hSw; obtain ⟨c1, c2, c3, a0, a1, a2, a3, a4, a5⟩ := hSw; go_simp; try with_reducible rfl
    try simp only [Act.put, List.setIfInBounds_toArray, List.set_cons_zero, List.set_cons_succ, List.getElem_toArray, List.getElem_cons_succ, List.getElem_cons_zero]
    refine wpAnyH_done (by kernel_rfl) ?_ _
    go_wp2
    go_ret
    exact ⟨rfl, H7⟩
  · have hnd : decide ((n : Int) < (s.size : Int)) = true := by simp <;> omega
    have hnd2 : decide (n < s.size) = true := by simp <;> omega
    have hS : ∀ w7 : World, Below w6.heap.size w6 w7 → (fun w' : World => w'.cell? ⟨w.heap.size, i, none⟩ = some (.string s) ∧ w'.cell? ⟨w.heap.size + 1, i, none⟩ = some (.int .i64 n) ∧ w'.cell? ⟨w.heap.size + 1 + 1, i, none⟩ = some (.bool m) ∧ w'.cell? ⟨g6, 0, none⟩ = some (.int .i32 65533) ∧ w'.cell? ⟨g6, 1, none⟩ = some (.int .i64 0) ∧ w'.cell? ⟨g6, 2, none⟩ = some (.int .i64 n) ∧ w'.cell? ⟨g6, 3, none⟩ = some (.bool true) ∧ w'.cell? ⟨g6, 4, none⟩ = some (.bool m) ∧ w'.cell? ⟨g6, 5, none⟩ = some (.int .i32 65533) ∧ w'.cell? ⟨g6, 8, none⟩ = some (.bool true)) w7 := fun w7 hB67 => by
      have hB37 := H6.out.2.2.trans (hB67.mono H6.out.2.2.size)
      have k6 := (owns_below H6.out.1 hB67).cells (g := g6) rfl
      exact ⟨(H3.out.2.1.below hB37).get0 HBD.out.s2 (by decide), (H3.out.2.2.1.below hB37).get0 HBD.out.n2 (by decide), (H3.out.2.2.2.1.below hB37).get0 HBD.out.m2 (by decide), cell_add k6 0 _ rfl, cell_add k6 1 _ rfl, (by have := cell_add k6 2 _ rfl; simpa using this), cell_add k6 3 _ rfl, cell_add k6 4 _ rfl, cell_add k6 5 _ rfl, cell_add k6 8 _ rfl⟩
    have HS := Lib.hid hS
    clear hS
    have hS0 := HS.out w6.drew (Below.refl _ _).drew
    simp only at hS0
    go_region_held3 (fun w' : World => w'.cell? ⟨w.heap.size, i, none⟩ = some (.string s) ∧ w'.cell? ⟨w.heap.size + 1, i, none⟩ = some (.int .i64 n) ∧ w'.cell? ⟨w.heap.size + 1 + 1, i, none⟩ = some (.bool m) ∧ w'.cell? ⟨g6, 0, none⟩ = some (.int .i32 65533) ∧ w'.cell? ⟨g6, 1, none⟩ = some (.int .i64 0) ∧ w'.cell? ⟨g6, 2, none⟩ = some (.int .i64 n) ∧ w'.cell? ⟨g6, 3, none⟩ = some (.bool true) ∧ w'.cell? ⟨g6, 4, none⟩ = some (.bool m) ∧ w'.cell? ⟨g6, 5, none⟩ = some (.int .i32 65533) ∧ w'.cell? ⟨g6, 8, none⟩ = some (.bool true))
      (first | assumption | go_keep)
      (first | (go_at_call 9; refine (told_any _).mono ?_; rintro e w7 ⟨rfl, hb7⟩; have hB67 : Below w6.heap.size w6 w7 := bel_then (Below.refl _ _).drew hb7; have hS7 := HS.out w7 hB67; simp only at hS7; have H7 := H6.out.2.1.trans (hB67.mono H6.out.2.1.size)))
    all_goals (
      go_wp2
      go_ret
      exact ⟨rfl, by assumption⟩)
end Go.Proofs.Ytjdgfhgpbhjcpaa

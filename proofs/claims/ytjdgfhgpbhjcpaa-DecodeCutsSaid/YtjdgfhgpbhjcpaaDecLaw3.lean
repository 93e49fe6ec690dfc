/- The walk of DecodeCuts. -/
import Derived.Test.YtjdgfhgpbhjcpaaDecTold
set_option linter.unusedVariables false
set_option linter.unusedSimpArgs false
namespace Go.Proofs.Ytjdgfhgpbhjcpaa
open Go.RowKit De

namespace De
/-- where the last whole item ends -/
theorem wh_end (a : Nat) (l : List Int) : ((wh a l).1 = [] → (wh a l).2.length = l.length) ∧ ∀ B c x, (wh a l).1 = B ++ [(c, x)] → c + x.n = a + l.length - (wh a l).2.length := by
  refine wh_ind (P := fun a l => ((wh a l).1 = [] → (wh a l).2.length = l.length) ∧ ∀ B c x, (wh a l).1 = B ++ [(c, x)] → c + x.n = a + l.length - (wh a l).2.length) ?_ ?_ ?_ a l
  · intro a; rw [wh_nil]; exact ⟨fun _ => rfl, fun B c x h => by simp at h⟩
  · intro a l h; rw [wh_open h]; exact ⟨fun _ => rfl, fun B c x h => by simp at h⟩
  · intro a l hl h ih
    rw [wh_cons hl h]
    have hn := (one_n l).2.2 hl
    have hr := (wh_rest (a + (one l).n) (l.drop (one l).n)).2.1
    rw [List.length_drop] at hr ih
    obtain ⟨i1, i2⟩ := ih
    refine ⟨fun h => by simp at h, fun B c x hx => ?_⟩
    simp only at hx ⊢
    generalize hW : (wh (a + (one l).n) (l.drop (one l).n)).1 = W at hx i1 i2
    generalize (wh (a + (one l).n) (l.drop (one l).n)).2 = R at hx i1 i2 hr ⊢
    rcases List.eq_nil_or_concat W with hW0 | ⟨C, y, hC⟩
    · have := i1 hW0
      rw [hW0] at hx
      have hB : B = [] ∧ (a, one l) = (c, x) := by
        cases B with
        | nil => simpa using hx
        | cons b B => simp at hx
      obtain ⟨_, e⟩ := hB
      cases e
      omega
    · obtain ⟨yc, yx⟩ := y
      rw [List.concat_eq_append] at hC
      have := i2 C yc yx hC
      rw [hC, ← List.cons_append] at hx
      have e := (List.append_inj' hx rfl).2
      simp at e
      obtain ⟨rfl, rfl⟩ := e
      omega
theorem u64_mod7 (a : Int) : ∃ i : Nat, i < 7 ∧ (IntKind.u64.wrap a).tmod 7 = (i : Int) := by
  have h0 : 0 ≤ IntKind.u64.wrap a := by unfold IntKind.wrap; simp [IntKind.bits, IntKind.signed]; omega
  have h1 := Int.tmod_nonneg 7 h0
  have h2 := Int.tmod_lt_of_pos (IntKind.u64.wrap a) (show (0 : Int) < 7 by omega)
  exact ⟨((IntKind.u64.wrap a).tmod 7).toNat, by omega, by omega⟩
end De

/-- rows of other types lie in other blocks -/
theorem owns_ne {w : World} {base1 base2 s1 s2 n1 n2 : Nat} {T1 T2 : TypeId} {u v : Value} {xs ys : List Value} (h1 : w.ownsRow base1 T1 s1 u n1 xs) (h2 : w.ownsRow base2 T2 s2 v n2 ys) (hT : T1 ≠ T2) : ∀ k, u.ownBlock = some k → v.ownBlock ≠ some k := by
  intro k hu hv
  obtain ⟨_, ⟨rfl, _⟩ | ⟨g, cap, cur, rfl, _, hg, _⟩⟩ := h1
  · simp [Value.ownBlock] at hu
  obtain ⟨_, ⟨rfl, _⟩ | ⟨g', cap', cur', rfl, _, hg', _⟩⟩ := h2
  · simp [Value.ownBlock] at hv
  simp only [Value.ownBlock, Option.some.injEq] at hu hv
  subst hu
  subst hv
  rw [hg] at hg'
  simp at hg'
  exact hT hg'.2
theorem Dk.grown {W0 w w' : World} {p f n base : Nat} {held : List Int} {cl : Bool} {v u : Value} {xs : List Value} (h : Dk W0 w p f held cl v) (ho : w.ownsRow base 36 5 u n xs) (hb : W0.heap.size ≤ base) (hg : w.grownBy w' u.ownBlock) : Dk W0 w' p f held cl v := by
  obtain ⟨bv, h1, h2, h3⟩ := h.dec
  refine ⟨⟨bv, Nat.le_trans h1 hg.size, h2, ⟨?_, ?_⟩⟩, h.low, h.bel.grown hg h.bel.size (fun j hj => by have := ho.lt j hj; omega)⟩
  · rw [hg.block p (blk_lt h3.hh) ?_]
    · exact h3.hh
    · intro e
      obtain ⟨_, ⟨rfl, _⟩ | ⟨g, cap, cur, rfl, _, hgg, _⟩⟩ := ho
      · simp [Value.ownBlock] at e
      · simp only [Value.ownBlock, Option.some.injEq] at e
        subst e
        rw [h3.hh] at hgg
        simp at hgg
  · exact owns_at h3.own fun k hk => hg.block k (h3.own.lt k hk).2 (fun e => owns_ne h3.own ho (by decide) k hk e.symm)

/-- what the loop of DecodeCuts has at its head -/
def CutAt (w wr : World) (p : Nat) (bs : List Int) (t : Nat) (u : Value) : Prop :=
  t ≤ bs.length ∧ wr.ownsRow w.heap.size 36 5 u (wh 0 (bs.take t)).1.length (itsc (wh 0 (bs.take t)).1) ∧ ∃ v, Dk w wr p (t - (wh 0 (bs.take t)).2.length) (wh 0 (bs.take t)).2 false v

set_option maxHeartbeats 4000000 in
set_option maxRecDepth 1000000 in
theorem decodeCuts_walk (bs : List Int) (v : Value) (zs : List Int) (vz : Value) (w : World) (hr : Row w v bs.length (bs.map (Value.int .u8))) (hu : ∀ x ∈ bs, 0 ≤ x ∧ x < 256)
    (hrz : Row w vz zs.length (zs.map (Value.int .i64))) (hzw : ∀ n ∈ zs, (Lit.int .i64 n).wf = true) :
    Calls Try.prog 4 #[v, vz] w fun e w' => e = .returned (.bool true) ∧ Below w.heap.size w w' := by
  clear hzw
  obtain ⟨ii, hi, hz0, hz1, hz2⟩ := infoItem
  have hmax := hr.le
  have hmaxz := hrz.le
  have HR := Lib.hid (And.intro hr hrz)
  obtain ⟨ov, cv, hcapv, rfl⟩ : ∃ o c, bs.length ≤ c ∧ v = .slice o bs.length c := by obtain ⟨o, c, rfl, h, _⟩ := hr; exact ⟨_, _, h, rfl⟩
  obtain ⟨oz, cz, rfl⟩ : ∃ o c, vz = .slice o zs.length c := by obtain ⟨o, c, rfl, _⟩ := hrz; exact ⟨_, _, rfl⟩
  clear hr hrz
  by_cases hlen : 300 < bs.length
  · go_enter Try.func4, Try.ntmps4
    go_wp2_with fail
    refine (newK_any w w (Below.refl _ _)).mono ?_
    rintro e w1 ⟨p, rfl, hd1, _, hs1⟩
    have hB1 := hd1.bel
    go_wp2_with (go_at_call 9; refine (told_any _).mono ?_; rintro e w2 ⟨rfl, hb2⟩)
    go_ret
    exact ⟨rfl, hB1.trans (hb2.mono hB1.size)⟩
  have hl1 : bs.length ≤ 300 := by omega
  clear hlen
  have HU := Lib.hid hu
  clear hu
  go_enter Try.func4, Try.ntmps4
  go_wp2_with fail
  refine (newK_any w w (Below.refl _ _)).mono ?_
  rintro e w1 ⟨p, rfl, hd1, _, hs1⟩
  have H1 := Lib.hid hd1
  clear hd1
  go_wp2_with fail
  go_loopw [6, 7, 8] (fun u a i wr => ∃ (k t : Nat), k ≤ zs.length ∧ k ≤ 100 ∧ i = .int .i64 k ∧ a = .int .i64 t ∧ CutAt w wr p bs t u)
    (fun _ _ i _ => zs.length - (intOf i).toNat)
  case atStart =>
    refine ⟨0, 0, Nat.zero_le _, Nat.zero_le _, rfl, rfl, ?_⟩
    unfold CutAt
    rw [List.take_zero, wh_nil]
    exact ⟨Nat.zero_le _, World.ownsRow_nil _ _ _ _, _, H1.out⟩
  case round =>
    obtain ⟨k, t, hk, hk100, rfl, rfl, ht, hown, vd, hdk⟩ := hrel
    obtain ⟨wo, rfl⟩ : ∃ wo : World, wo = wr := ⟨_, rfl⟩
    obtain ⟨ou, cu, rfl⟩ := owns_slice hown
    have hrest := wh_rest 0 (bs.take t)
    have hwlen := wh_len 0 (bs.take t)
    have htl : (bs.take t).length = t := by simp; omega
    obtain ⟨A, R, hAR⟩ : ∃ A R, wh 0 (bs.take t) = (A, R) := ⟨_, _, rfl⟩
    rw [hAR] at hrest hwlen hown hdk ⊢
    simp only at hrest hwlen hown hdk ⊢
    obtain ⟨r1, r2, r3, r4⟩ := hrest
    rw [htl] at r2 r4 hwlen
    have hRu : ∀ y ∈ R, 0 ≤ y ∧ y < 256 := fun y hy => HU.out y (by rw [r4] at hy; exact List.mem_of_mem_take (List.mem_of_mem_drop hy))
    obtain ⟨f, hf⟩ : ∃ f, f = t - R.length := ⟨_, rfl⟩
    rw [← hf] at hdk
    have HD := Lib.hid (And.intro hown (And.intro hdk (And.intro hAR (And.intro hf (And.intro r4 (And.intro hRu htl))))))
    clear hown hdk hAR r3 r4 hRu htl
    by_cases hgo : k < zs.length ∧ k < 100
    · obtain ⟨hkz, hkh⟩ := hgo
      obtain ⟨m, hm7, hm⟩ := u64_mod7 (zs.getD k 0)
      obtain ⟨bz, fz, rfl, hbz, hcz⟩ : ∃ b off, oz = some ⟨b, off, none⟩ ∧ b < wo.heap.size ∧ wo.cell? ⟨b, off + k, none⟩ = some (.int .i64 (zs.getD k 0)) := by
        obtain ⟨o, c, e, _, _, h3⟩ := HR.out.2.below HD.out.2.1.bel
        simp only [Value.slice.injEq, true_and] at e
        obtain ⟨rfl, rfl⟩ := e
        rcases h3 with ⟨h0, _⟩ | ⟨b, off, rfl, hb, hc⟩
        · omega
        · exact ⟨b, off, rfl, hb, hc k _ (getElem?_ints hkz)⟩
      obtain ⟨z, hz⟩ : ∃ z, z = zs.getD k 0 := ⟨_, rfl⟩
      rw [← hz] at hm hcz
      clear hz
      obtain ⟨n, hn⟩ : ∃ n : Nat, n = min (bs.length - t) m := ⟨_, rfl⟩
      have hnt : t + n ≤ bs.length := by omega
      have hn6 : n ≤ 6 := by omega
      have hmn : min ((bs.length : Int) - (t : Int)) (m : Int) = (n : Int) := by omega
      clear hn
      have hk1 : decide ((k : Int) < (zs.length : Int)) = true := by simp <;> omega
      have hk2 : decide ((k : Int) < 100) = true := by simp <;> omega
      obtain ⟨o1, c1, hst1, hsl1⟩ := cutB_m ov cv bs.length (bs.map (Value.int .u8)) (by simp) t (t + n) (by omega) hnt hcapv ((t : Int) + (n : Int)) (by omega)
      obtain ⟨o2, c2, hst2, hsl2⟩ := cutB_hy ov cv bs.length (bs.map (Value.int .u8)) (by simp) (t + n) hnt hcapv ((t : Int) + (n : Int)) (by omega)
      have en : t + n - t = n := by omega
      rw [en] at hst1 hsl1
      have hpl : ((bs.drop t).take n).length = n := by simp; omega
      have hpm : ((bs.map (Value.int .u8)).drop t).take n = ((bs.drop t).take n).map (Value.int .u8) := by simp [List.map_take, List.map_drop]
      have hph : (bs.map (Value.int .u8)).take (t + n) = (bs.take (t + n)).map (Value.int .u8) := by simp [List.map_take]
      have htn : bs.take (t + n) = bs.take t ++ (bs.drop t).take n := by rw [List.take_add]
      have hwa := wh_append 0 (bs.take t) ((bs.drop t).take n)
      rw [← htn, HD.out.2.2.1] at hwa
      simp only at hwa
      have efx : 0 + (bs.take t).length - R.length = f := by rw [HD.out.2.2.2.2.2.2, HD.out.2.2.2.1]; omega
      rw [efx] at hwa
      have hfl : f ≤ 300 := by have := HD.out.2.2.2.1; omega
      have hrow1 : Row wo (.slice o1 n c1) ((bs.drop t).take n).length (((bs.drop t).take n).map (Value.int .u8)) := by
        rw [hpl, ← hpm]; exact hsl1 wo (HR.out.1.below HD.out.2.1.bel)
      have hfed := fedK_any w p f vd (.slice o1 n c1) R ((bs.drop t).take n) wo HD.out.2.1 hrow1
        (fun y hy => by
          rcases List.mem_append.1 hy with h | h
          · exact HD.out.2.2.2.2.2.1 y h
          · exact HU.out y (List.mem_of_mem_drop (List.mem_of_mem_take h))) r1 (by omega) (by omega)
      obtain ⟨A2, R2, hA2⟩ : ∃ A2 R2, wh f (R ++ (bs.drop t).take n) = (A2, R2) := ⟨_, _, rfl⟩
      have hrest2 := wh_rest f (R ++ (bs.drop t).take n)
      have hlen2 := wh_len f (R ++ (bs.drop t).take n)
      rw [hA2] at hfed hwa hrest2 hlen2
      simp only at hfed hwa hrest2 hlen2
      have hRl : (R ++ (bs.drop t).take n).length = R.length + n := by rw [List.length_append, hpl]
      rw [hRl] at hfed hrest2 hlen2
      have hend := wh_end 0 (bs.take (t + n))
      rw [hwa] at hend
      simp only at hend
      have htl2 : (bs.take (t + n)).length = t + n := by simp; omega
      rw [htl2] at hend
      have hf2 : f + (R.length + n - R2.length) = t + n - R2.length := by have := HD.out.2.2.2.1; have := hrest2.2.1; omega
      rw [hf2] at hfed
      have hr23 := hrest2.1
      have hr2n := hrest2.2.1
      have hrt : R2.length ≤ t + n := by have := HD.out.2.2.2.1; omega
      obtain ⟨s, hs⟩ : ∃ s, s = strOfNums (bs.take (t + n)) := ⟨_, rfl⟩
      have hss : s.size = t + n := by rw [hs, strOfNums_size, htl2]
      have hsb : sb s = bs.take (t + n) := by rw [hs]; exact sb_nums _ (fun y hy => HU.out y (List.mem_of_mem_take hy))
      have hcv := fun (w' : World) (hb : Below w.heap.size w w') => conv_row (w := w') (n := t + n) (bs := bs.take (t + n)) htl2.symm (by rw [← hph]; exact hsl2 w' (HR.out.1.below hb))
      rw [← hs] at hcv
      have hfd := fun (w' : World) => refFed_any s w' (by omega)
      rw [hsb, hwa] at hfd
      simp only at hfd
      obtain ⟨L, hL⟩ : ∃ L, L = A ++ A2 := ⟨_, rfl⟩
      rw [← hL] at hwa hend hfd
      have hLl : L.length ≤ 400 := by rw [hL, List.length_append]; omega
      have hAl : A.length + A2.length ≤ 400 := by rw [hL, List.length_append] at hLl; exact hLl
      have HH := Lib.hid (And.intro hcv (And.intro hfd (And.intro hwa (And.intro hend hL))))
      have HF := Lib.hid hfed
      clear hsl1 hsl2 hpm hph htn hwa efx hrow1 hfed hA2 hrest2 hRl hend hf2 hs hss hsb hcv hfd hpl htl2 en hL
      go_wp2_with fail
      refine HF.out.mono ?_
      rintro e w2 ⟨u2, v2, rfl, hown2, hd2, hk2, _, hs2⟩
      obtain ⟨o5, c5, rfl⟩ := owns_slice hown2
      have hownl := hk2 _ _ _ _ _ _ HD.out.1 (by decide) (by decide)
      have hz2' := hd2.bel.size
      have H2 := Lib.hid (And.intro hownl (And.intro hown2 hd2))
      clear hownl hown2 hd2 hk2 hst1
      go_wp2_with (at_builtin; refine wpList_append_row _ rfl _ _ 25 rfl w.heap.size 36 ii (.agg #[.int .i32 0, .int .i64 0, .int .i64 0, .bool false, .bool false]) 5 32 Try.underlying25 hi hz0 hz1 hz2 rfl (by decide) _ _ _ rfl H2.out.1 _ _ _ rfl (Row.owned H2.out.2.1) (itsc_len _) (itsc_one _) (by unfold maxLen; omega) (by omega) hz2' ?_; intro v3 w3 hown3 hg3; have hd3 := H2.out.2.2.grown H2.out.1 (Nat.le_refl _) hg3; rw [← itsc_append, ← List.length_append, ← HH.out.2.2.2.2] at hown3; obtain ⟨o3, c3, rfl⟩ := owns_slice hown3; have hcv3 := HH.out.1 w3 hd3.bel; have H3 := Lib.hid (And.intro hown3 hd3); clear hown3 hg3 hd3)
      refine (HH.out.2.1 _).mono ?_
      rintro e w4 ⟨u4', rfl, hown4, hb4⟩
      obtain ⟨o6, c6, rfl⟩ := owns_slice hown4
      have hl4 := owns_below H3.out.1 hb4
      have hd4 := H3.out.2.below hb4
      have hfin : ∀ w5, Below w4.heap.size w4 w5 → CutAt w w5 p bs (t + n) (.slice o3 L.length c3) := by
        intro w5 hb5
        unfold CutAt
        rw [HH.out.2.2.1]
        exact ⟨hnt, owns_below hl4 hb5, v2, hd4.below hb5⟩
      have H4 := Lib.hid (And.intro hown4 (And.intro hl4 (And.intro hd4 hfin)))
      have hr3 : decide (3 < R2.length) = false := by simp <;> omega
      clear hown4 hl4 hd4 hfin hb4 hcv3 hst2
      rcases List.eq_nil_or_concat L with hL0 | ⟨B, cx, hLB⟩
      · have hR2 := HH.out.2.2.2.1.1 hL0
        have hq1 : ((R2.length : Int) != ((t : Int) + (n : Int))) = false := by rw [hR2]; simp
        have hlz : L.length = 0 := by rw [hL0]; rfl
        rw [hlz]
        clear hR2
        have hit := items_same L (.slice o3 L.length c3) (.slice o6 L.length c6) w4 (Row.owned H4.out.2.1) (Row.owned H4.out.1) (by omega)
        rw [hlz] at hit
        have HI := Lib.hid (And.intro hit hlz)
        clear hit hlz hL0
        go_wp2_with fail
        refine HI.out.1.mono ?_
        rintro e w5 ⟨rfl, hb5⟩
        have hd5 := H4.out.2.2.1.below hb5
        have hc5 := H4.out.2.2.2 w5 hb5
        rw [HI.out.2] at hc5
        have H5 := Lib.hid (And.intro hd5 hc5)
        clear hd5 hc5 hb5
        go_wp2_with fail
        refine (heldK_any w p _ _ _ _ _ H5.out.1).mono ?_
        rintro e w' ⟨rfl, rfl⟩
        go_wp2_with fail
        refine (heldK_any w p _ _ _ _ _ H5.out.1).mono ?_
        rintro e w' ⟨rfl, rfl⟩
        go_wp2_with fail
        go_roundw
        case rel => exact ⟨k + 1, t + n, by omega, by omega, by go_num, int_eq (by simp), H5.out.2⟩
        case measure => simp [intOf] <;> omega
      · obtain ⟨cc, x⟩ := cx
        rw [List.concat_eq_append] at hLB
        have hE := HH.out.2.2.2.1.2 B cc x hLB
        obtain ⟨j, hj⟩ : ∃ j, j = B.length := ⟨_, rfl⟩
        have hlz : L.length = j + 1 := by rw [hLB, hj]; simp
        have hLj : L[j]? = some (cc, x) := by rw [hLB, hj]; simp
        obtain ⟨E, hEE⟩ : ∃ E : Nat, E = cc + x.n := ⟨_, rfl⟩
        have hEi : (cc : Int) + (x.n : Int) = (E : Int) := by omega
        have hq1 : ((R2.length : Int) != ((t : Int) + (n : Int) - (E : Int))) = false := by simp; omega
        obtain ⟨b6, f6, k6, e6, _, _, _, a2, _, _⟩ := (Row.owned H4.out.1).item hLj
        simp only [Value.slice.injEq, true_and] at e6
        obtain ⟨rfl, rfl⟩ := e6
        simp only [hEi] at a2
        have hjl : j ≤ 400 := by omega
        have hEb : E ≤ t + n := by omega
        have hit := items_same L (.slice o3 L.length c3) (.slice (some ⟨b6, f6, none⟩) L.length c6) w4 (Row.owned H4.out.2.1) (Row.owned H4.out.1) (by omega)
        rw [hlz] at hit ⊢
        have HI := Lib.hid (And.intro hit hlz)
        clear hit hlz hLB hE hj hLj hEE hEi
        go_wp2_with fail
        refine HI.out.1.mono ?_
        rintro e w5 ⟨rfl, hb5⟩
        have hd5 := H4.out.2.2.1.below hb5
        have hc5 := H4.out.2.2.2 w5 hb5
        rw [HI.out.2] at hc5
        have H5 := Lib.hid (And.intro hd5 hc5)
        clear hd5 hc5 hb5 a2
        go_wp2_with fail
        refine (heldK_any w p _ _ _ _ _ H5.out.1).mono ?_
        rintro e w' ⟨rfl, rfl⟩
        go_wp2_with fail
        refine (heldK_any w p _ _ _ _ _ H5.out.1).mono ?_
        rintro e w' ⟨rfl, rfl⟩
        go_wp2_with fail
        go_roundw
        case rel => exact ⟨k + 1, t + n, by omega, by omega, by go_num, int_eq (by simp), H5.out.2⟩
        case measure => simp [intOf] <;> omega
    · have hex : (¬ k < zs.length) ∨ (k < zs.length ∧ k = 100) := by omega
      clear hgo
      obtain ⟨o1, c1, hst1, hsl1⟩ := cutB_l ov cv bs.length (bs.map (Value.int .u8)) (by simp) t ht hcapv
      have hpl : (bs.drop t).length = bs.length - t := by simp
      have hpm : (bs.map (Value.int .u8)).drop t = (bs.drop t).map (Value.int .u8) := by simp [List.map_drop]
      have hwa := wh_append 0 (bs.take t) (bs.drop t)
      rw [List.take_append_drop, HD.out.2.2.1] at hwa
      simp only at hwa
      have efx : 0 + (bs.take t).length - R.length = f := by rw [HD.out.2.2.2.2.2.2, HD.out.2.2.2.1]; omega
      rw [efx] at hwa
      have hfl : f ≤ 300 := by have := HD.out.2.2.2.1; omega
      have hrow1 : Row wo (.slice o1 (bs.length - t) c1) (bs.drop t).length ((bs.drop t).map (Value.int .u8)) := by
        rw [hpl, ← hpm]; exact hsl1 wo (HR.out.1.below HD.out.2.1.bel)
      have hfed := fedK_any w p f vd (.slice o1 (bs.length - t) c1) R (bs.drop t) wo HD.out.2.1 hrow1
        (fun y hy => by
          rcases List.mem_append.1 hy with h | h
          · exact HD.out.2.2.2.2.2.1 y h
          · exact HU.out y (List.mem_of_mem_drop h)) r1 (by omega) (by omega)
      obtain ⟨A2, R2, hA2⟩ : ∃ A2 R2, wh f (R ++ bs.drop t) = (A2, R2) := ⟨_, _, rfl⟩
      have hrest2 := wh_rest f (R ++ bs.drop t)
      have hlen2 := wh_len f (R ++ bs.drop t)
      rw [hA2] at hfed hwa hrest2 hlen2
      simp only at hfed hwa hrest2 hlen2
      have hRl : (R ++ bs.drop t).length = R.length + (bs.length - t) := by rw [List.length_append, hpl]
      rw [hRl] at hfed hrest2 hlen2
      have hr23 := hrest2.1
      have hf2 : f + (R.length + (bs.length - t) - R2.length) = bs.length - R2.length := by have := HD.out.2.2.2.1; have := hrest2.2.1; omega
      rw [hf2] at hfed
      have hR2u : ∀ y ∈ R2, 0 ≤ y ∧ y < 256 := fun y hy => by
        rw [hrest2.2.2.2] at hy
        rcases List.mem_append.1 (List.mem_of_mem_drop hy) with h | h
        · exact HD.out.2.2.2.2.2.1 y h
        · exact HU.out y (List.mem_of_mem_drop h)
      obtain ⟨L, hL⟩ : ∃ L, L = A ++ A2 := ⟨_, rfl⟩
      have hAl : A.length + A2.length ≤ 400 := by omega
      have hLl : L.length ≤ 400 := by rw [hL, List.length_append]; exact hAl
      rw [← hL] at hwa
      obtain ⟨C, hC⟩ : ∃ C : List (Nat × It), C = if R2 = [] then [] else [(bs.length - R2.length, one R2)] := ⟨_, rfl⟩
      have hCl : C.length ≤ 1 := by rw [hC]; split <;> simp
      have hall : all 0 bs = L ++ C := by
        unfold all; rw [hwa, hC]; simp
      obtain ⟨M, hM⟩ : ∃ M, M = L ++ C := ⟨_, rfl⟩
      have hMl : M.length ≤ 500 := by rw [hM, List.length_append]; omega
      rw [← hM] at hall
      have hshut := fun (v2 : Value) (w3 : World) (hd : Dk w w3 p (bs.length - R2.length) R2 false v2) => shutK_any w p (bs.length - R2.length) v2 R2 w3 hd hR2u hr23 (by omega)
      unfold ShutPost at hshut
      rw [← hC] at hshut
      obtain ⟨s, hs⟩ : ∃ s, s = strOfNums bs := ⟨_, rfl⟩
      have hss : s.size = bs.length := by rw [hs, strOfNums_size]
      have hsb : sb s = bs := by rw [hs]; exact sb_nums _ HU.out
      have hcv := fun (w' : World) (hb : Below w.heap.size w w') => conv_row (w := w') (o := ov) (cap := cv) (n := bs.length) (bs := bs) rfl (HR.out.1.below hb)
      rw [← hs] at hcv
      have hfd := fun (w' : World) => refAll_any s w' (by omega)
      rw [hsb, hall] at hfd
      have HH := Lib.hid (And.intro hcv (And.intro hfd (And.intro hL (And.intro hshut hM))))
      have HF := Lib.hid hfed
      clear hsl1 hpm hwa efx hrow1 hfed hA2 hrest2 hRl hf2 hs hss hsb hcv hfd hpl hL hshut hall hC hR2u hM
      rcases hex with hx | ⟨hx, rfl⟩
      all_goals (
        go_wp2_with fail
        refine HF.out.mono ?_
        rintro e w2 ⟨u2, v2, rfl, hown2, hd2, hk2, _, hs2⟩
        obtain ⟨o5, c5, rfl⟩ := owns_slice hown2
        have hownl := hk2 _ _ _ _ _ _ HD.out.1 (by decide) (by decide)
        have hz2' := hd2.bel.size
        have H2 := Lib.hid (And.intro hownl (And.intro hown2 hd2))
        clear hownl hown2 hd2 hk2 hst1
        go_wp2_with (at_builtin; refine wpList_append_row _ rfl _ _ 25 rfl w.heap.size 36 ii (.agg #[.int .i32 0, .int .i64 0, .int .i64 0, .bool false, .bool false]) 5 32 Try.underlying25 hi hz0 hz1 hz2 rfl (by decide) _ _ _ rfl H2.out.1 _ _ _ rfl (Row.owned H2.out.2.1) (itsc_len _) (itsc_one _) (by unfold maxLen; omega) (by omega) hz2' ?_; intro v3 w3 hown3 hg3; have hd3 := H2.out.2.2.grown H2.out.1 (Nat.le_refl _) hg3; rw [← itsc_append, ← List.length_append, ← HH.out.2.2.1] at hown3; obtain ⟨o3, c3, rfl⟩ := owns_slice hown3; have H3 := Lib.hid (And.intro hown3 hd3); clear hown3 hg3 hd3)
        refine (HH.out.2.2.2.1 _ _ H3.out.2).mono ?_
        rintro e w7 ⟨u7, v7, rfl, hown7, hd7, hk7, hs7⟩
        obtain ⟨o7, c7, rfl⟩ := owns_slice hown7
        have hownl := hk7 _ _ _ _ _ _ H3.out.1 (by decide) (by decide)
        have hz7' := hd7.bel.size
        have H7 := Lib.hid (And.intro hownl (And.intro hown7 hd7))
        clear hownl hown7 hd7 hk7
        go_wp2_with (at_builtin; refine wpList_append_row _ rfl _ _ 25 rfl w.heap.size 36 ii (.agg #[.int .i32 0, .int .i64 0, .int .i64 0, .bool false, .bool false]) 5 32 Try.underlying25 hi hz0 hz1 hz2 rfl (by decide) _ _ _ rfl H7.out.1 _ _ _ rfl (Row.owned H7.out.2.1) (itsc_len _) (itsc_one _) (by unfold maxLen; omega) (by omega) hz7' ?_; intro v8 w8 hown8 hg8; have hd8 := H7.out.2.2.grown H7.out.1 (Nat.le_refl _) hg8; rw [← itsc_append, ← List.length_append, ← HH.out.2.2.2.2] at hown8; obtain ⟨o8, c8, rfl⟩ := owns_slice hown8; have H8 := Lib.hid (And.intro hown8 hd8); clear hown8 hg8 hd8)
        refine (told_any _).mono ?_
        rintro e w9 ⟨rfl, hb9⟩
        have hd9 := H8.out.2.below hb9
        have hl9 := owns_below H8.out.1 hb9
        have hcv9 := HH.out.1 w9 hd9.bel
        have H9 := Lib.hid (And.intro hl9 hd9)
        clear hd9 hl9 hb9
        go_wp2_with fail
        refine (HH.out.2.1 _).mono ?_
        rintro e w10 ⟨u10', rfl, hown10, hb10⟩
        have hd10 := H9.out.2.below hb10
        have hl10 := owns_below H9.out.1 hb10
        have hit := items_same M _ _ w10 (Row.owned hl10) (Row.owned hown10) (by omega)
        have HI := Lib.hid (And.intro hit hd10)
        clear hcv9 hown10 hb10 hd10 hl10 hit
        go_wp2_with fail
        refine HI.out.1.mono ?_
        rintro e w11 ⟨rfl, hb11⟩
        have hd11 := HI.out.2.below hb11
        have H11 := Lib.hid hd11
        clear hd11 hb11
        go_wp2_with fail
        refine (shutC_any w p _ _ _ _ H11.out).mono ?_
        rintro e w' ⟨rfl, rfl⟩
        go_wp2_with fail
        refine (heldK_any w p _ _ _ _ _ H11.out).mono ?_
        rintro e w' ⟨rfl, rfl⟩
        go_wp2
        go_ret
        exact ⟨rfl, H11.out.bel⟩)
end Go.Proofs.Ytjdgfhgpbhjcpaa

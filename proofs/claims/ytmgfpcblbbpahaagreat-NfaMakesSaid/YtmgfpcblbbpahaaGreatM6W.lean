/- gobolaw6.Make: the walk. -/
import Derived.Test.YtmgfpcblbbpahaaGreatGRefE
import Derived.Deep.RegionHeld
import Derived.Deep.DeepCutAuto
import Derived.Deep.RegionHeld3
import Derived.Test.YtmgfpcblbbpahaaGreatM6K
import Derived.Deep.RegionLaw
import Derived.Deep.LoopGhost
set_option linter.unusedVariables false
set_option linter.unusedSimpArgs false
namespace Go.Proofs.YtmgfpcblbbpahaaGreat
open Go.RowKit Ru

set_option maxHeartbeats 8000000 in
set_option maxRecDepth 100000 in
theorem one_exact (r : Int) (w : World) :
    Calls Tryz.prog 34 #[.int .i32 r] w fun e w' => e = .returned (.agg #[.int .i64 2, .slice (some ⟨w.heap.size + 1, 0, none⟩) 1 1, .slice none 0 0]) ∧ w' = (w.alloc (.cells #[.int .i64 2, .slice (some ⟨w.heap.size + 1, 0, none⟩) 1 1, .slice none 0 0] 41)).alloc (.cells #[.int .i32 r, .int .i32 r] 54) := by
  go_enter Tryz.func34, Tryz.ntmps34
  go_wp2_with fail
  simp [bodyPost, results, Tryz.results34, go_sem]
end Go.Proofs.YtmgfpcblbbpahaaGreat

namespace Go.Proofs.YtmgfpcblbbpahaaGreat
open Go.RowKit Ru

theorem cells3m_of {w : World} {p : Nat} {a b c : Value} {t : TypeId} (h : w.heap[p]? = some (.cells #[a, b, c] t (0, 0))) : (w.cell? ⟨p, 0, none⟩ = some a ∧ w.cell? ⟨p, 1, none⟩ = some b ∧ w.cell? ⟨p, 2, none⟩ = some c) ∧ w.frozen? ⟨p, 0, none⟩ = false ∧ w.frozen? ⟨p, 1, none⟩ = false ∧ w.frozen? ⟨p, 2, none⟩ = false := by
  simp [World.cell?, World.frozen?, h]
theorem set3_alloc {w : World} {o : Obj} {g i j k : Nat} {a b c : Value} (hg : g < w.heap.size) : (((w.alloc o).setCell ⟨g, i, none⟩ a).setCell ⟨g, j, none⟩ b).setCell ⟨g, k, none⟩ c =
    (((w.setCell ⟨g, i, none⟩ a).setCell ⟨g, j, none⟩ b).setCell ⟨g, k, none⟩ c).alloc o := by
  rw [World.setCell_alloc_past _ _ _ _ hg, World.setCell_alloc_past _ _ _ _ (by simpa [World.setCell] using hg), World.setCell_alloc_past _ _ _ _ (by simpa [World.setCell] using hg)]
def M6Post (l : List Int) (w : World) (e : Ending) (w' : World) : Prop :=
  ∃ sv ev, e = .returned (.agg #[.int .i64 (M6.makeR l).kind, sv, ev]) ∧ KP (fun k => w.heap.size ≤ k) w' (fun w2 => ReIs w2 (M6.makeR l) sv ev) ∧ Below w.heap.size w w'
theorem m6_end {l : List Int} {w w5 : World} {e : RE} {sv lv x0 x1 x2 : Value} (hr : w5.heap[w.heap.size]? = some (.cells #[x0, x1, x2] 41 (0, 0))) (hb : Below w.heap.size w w5) (hk : KP (fun k => w.heap.size < k) w5 (fun w2 => ReIs w2 e sv lv)) (he : M6.makeR l = e) :
    ∃ W9, W9 = ((w5.setCell ⟨w.heap.size, 0, none⟩ (.int .i64 e.kind)).setCell ⟨w.heap.size, 1, none⟩ sv).setCell ⟨w.heap.size, 2, none⟩ lv ∧
      ((W9.cell? ⟨w.heap.size, 0, none⟩ = some (.int .i64 e.kind) ∧ W9.cell? ⟨w.heap.size, 1, none⟩ = some sv ∧ W9.cell? ⟨w.heap.size, 2, none⟩ = some lv) ∧ W9.frozen? ⟨w.heap.size, 0, none⟩ = false ∧ W9.frozen? ⟨w.heap.size, 1, none⟩ = false ∧ W9.frozen? ⟨w.heap.size, 2, none⟩ = false) ∧
      M6Post l w (.returned (.agg #[.int .i64 e.kind, sv, lv])) W9 := by
  refine ⟨_, rfl, cells3m_of (t := 41) (set_three _ _ _ hr), sv, lv, by rw [he], ?_, ((hb.setCell (Nat.le_refl _) _).setCell (Nat.le_refl _) _).setCell (Nat.le_refl _) _⟩
  rw [he]
  have n0 : ¬ (w.heap.size < w.heap.size) := Nat.lt_irrefl _
  have h1 : Ag (fun k => w.heap.size < k) w5 (((w5.setCell ⟨w.heap.size, 0, none⟩ (.int .i64 e.kind)).setCell ⟨w.heap.size, 1, none⟩ sv).setCell ⟨w.heap.size, 2, none⟩ lv) := (((Ag.refl (fun k => w.heap.size < k) w5).setCell (p := ⟨w.heap.size, 0, none⟩) n0 _).setCell (p := ⟨w.heap.size, 1, none⟩) n0 _).setCell (p := ⟨w.heap.size, 2, none⟩) n0 _
  exact (hk.to h1).sub (fun k _ hk => Nat.le_of_lt hk)
set_option maxHeartbeats 20000000 in
set_option maxRecDepth 100000 in
theorem make6_any (l : List Int) (ol : Option Addr) (cl : Nat) (w : World) (hl : Row w (.slice ol l.length cl) l.length (l.map (Value.int .i64))) :
    Calls Tryz.prog 33 #[.slice ol l.length cl] w (M6Post l w) := by
  obtain ⟨ip, hp0, hp1, hp2, hp3⟩ := infoReM
  have HROWL := Lib.hid hl
  clear hl
  go_enter Tryz.func33, Tryz.ntmps33
  go_wp2_with fail
  go_loopg [3, 4] 14 (fun g s3 s4 wx => ∃ (j : Nat) (o : Option Addr) (n c : Nat) (ps : List Rt), j + g = 14 ∧ s4 = .int .i64 (j : Int) ∧ s3 = .slice o n c ∧ K6 l w j o n c ps wx)
  case atStart => exact ⟨0, none, 0, 0, [], rfl, rfl, rfl, K6.start l w⟩
  case round =>
    obtain ⟨j, o, n, c, ps, hjg, rfl, rfl, hS⟩ := hrel
    have HS := Lib.hid hS
    have hn14 : n ≤ 14 := by have := hS.len14; omega
    clear hS
    by_cases hj : (j < l.length ∧ j < 14)
    · obtain ⟨k, hk⟩ : ∃ k, k = l.getD j 0 := ⟨_, rfl⟩
      obtain ⟨v, hv, ev⟩ := afu64_mod' k 9 (by omega) (by omega)
      have ev1 : (IntKind.u64.wrap k).tmod 9 = (v : Int) := ev
      have ev2 : IntKind.i64.wrap (v : Int) = (v : Int) := IntWalk.i64_in _ (by omega)
      have HKE := Lib.hid hk
      have hd1 : decide ((j : Int) < (l.length : Int)) = true := by simp; omega
      have hd2 : decide ((j : Int) < 14) = true := by simp; omega
      obtain ⟨b, off, rfl, hk0⟩ : ∃ b off, ol = some ⟨b, off, none⟩ ∧ wr.cell? ⟨b, off + j, none⟩ = some (.int .i64 k) := by
        obtain ⟨o', cap', e, hc, hm, hr⟩ := HROWL.out.below HS.out.bel
        cases e
        rcases hr with ⟨h0, -⟩ | ⟨b, off, rfl, hlt, hcell⟩
        · omega
        · exact ⟨b, off, rfl, hcell j _ (by rw [hk]; exact getElem?_ints hj.1)⟩
      have hj14 := hj.2
      have hjl : (j : Int) < (l.length : Int) := by omega
      have HROW := Lib.hid (show wr.ownsRow (w.heap.size + 1) 41 3 (.slice o n c) n (ps.flatMap thr) from by have := HS.out.own.row; rw [HS.out.len] at this; exact this)
      have HLT := Lib.hid HS.out.lt
      cases gk with
      | zero => omega
      | succ g =>
      clear hk ev hj
      by_cases h4 : v < 4
      · skip
        obtain ⟨a, ha⟩ : ∃ a, bits BinOp.and IntKind.i64 k 1 = a := ⟨_, rfl⟩
        obtain ⟨bb, hb⟩ : ∃ a, bits BinOp.and IntKind.i64 (v : Int) 1 = a := ⟨_, rfl⟩
        have ba := M6.wrap_bit k
        have bb2 := M6.wrap_bit (v : Int)
        rw [ha] at ba
        rw [hb] at bb2
        obtain ⟨a0, a1⟩ := ba
        obtain ⟨b0, b1⟩ := bb2
        have d1 : decide ((v : Int) < 4) = true := by simp; omega
        have HC := Lib.hid h4
        clear h4
        have HAB := Lib.hid (And.intro ha hb)
        go_wp2_with (at_builtin; refine wpList_append_far _ rfl _ _ 27 rfl (w.heap.size + 1) 41 ip _ 3 56 Tryz.underlying27 hp0 hp1 hp2 hp3 rfl (by decide) (.slice o n c) n (ps.flatMap thr) rfl (by repeat (first | exact HROW.out | refine World.ownsRow.alloc ?_ _ | refine owns_drew ?_)) _ 1 _ rfl (by exact afrow_new rfl (by simp)) rfl (by simp [Value.oneCell']) (by unfold maxLen; omega) (by omega) (by have := HLT.out; simp; omega) ?_; intro v9 w9 hown9 hg9 hf9 hb9; obtain ⟨o9, c9, rfl⟩ := owns_slice hown9)
        obtain ⟨ps5, hS5⟩ := HS.out.push (p := M6.leafR a bb) (sv := .slice (some ⟨wr.heap.size, 0, none⟩) 1 1) (lv := .slice none 0 0) (by repeat (first | exact Below.refl _ _ | refine Below.drew ?_ | refine bel_new ?_ _)) hown9 rfl hg9 hf9 ((KP.block (b := wr.heap.size) (bel_get (w := wr.alloc _) (by repeat (first | exact Below.refl _ _ | refine Below.drew ?_ | refine bel_new ?_ _)) (heap_alloc_new wr _)) ⟨HLT.out, fun e => absurd (HS.out.own.row.lt _ e).2 (Nat.lt_irrefl _)⟩).mono (fun w' h => six_leaf h)) (HS.out.leaf hjl HKE.out ev1 (.inl HC.out) HAB.out.1 HAB.out.2)
        have HS5 := Lib.hid hS5
        clear hS5 hown9 hg9 hf9 hb9
        go_roundg g
        case measure => omega
        case rel => exact ⟨j + 1, o9, n + 1, c9, ps5, by omega, by simp, rfl, HS5.out⟩
      rcases Nat.eq_zero_or_pos n with rfl | hn0
      · skip
        obtain ⟨a, ha⟩ : ∃ a, bits BinOp.and IntKind.i64 k 1 = a := ⟨_, rfl⟩
        obtain ⟨bb, hb⟩ : ∃ a, bits BinOp.and IntKind.i64 (v : Int) 1 = a := ⟨_, rfl⟩
        have ba := M6.wrap_bit k
        have bb2 := M6.wrap_bit (v : Int)
        rw [ha] at ba
        rw [hb] at bb2
        obtain ⟨a0, a1⟩ := ba
        obtain ⟨b0, b1⟩ := bb2
        have d1 : decide ((v : Int) < 4) = false := by simp; omega
        clear h4
        have HAB := Lib.hid (And.intro ha hb)
        go_wp2_with (at_builtin; refine wpList_append_far _ rfl _ _ 27 rfl (w.heap.size + 1) 41 ip _ 3 56 Tryz.underlying27 hp0 hp1 hp2 hp3 rfl (by decide) (.slice o 0 c) 0 (ps.flatMap thr) rfl (by repeat (first | exact HROW.out | refine World.ownsRow.alloc ?_ _ | refine owns_drew ?_)) _ 1 _ rfl (by exact afrow_new rfl (by simp)) rfl (by simp [Value.oneCell']) (by unfold maxLen; omega) (by omega) (by have := HLT.out; simp; omega) ?_; intro v9 w9 hown9 hg9 hf9 hb9; obtain ⟨o9, c9, rfl⟩ := owns_slice hown9)
        obtain ⟨ps5, hS5⟩ := HS.out.push (p := M6.leafR a bb) (sv := .slice (some ⟨wr.heap.size, 0, none⟩) 1 1) (lv := .slice none 0 0) (by repeat (first | exact Below.refl _ _ | refine Below.drew ?_ | refine bel_new ?_ _)) hown9 rfl hg9 hf9 ((KP.block (b := wr.heap.size) (bel_get (w := wr.alloc _) (by repeat (first | exact Below.refl _ _ | refine Below.drew ?_ | refine bel_new ?_ _)) (heap_alloc_new wr _)) ⟨HLT.out, fun e => absurd (HS.out.own.row.lt _ e).2 (Nat.lt_irrefl _)⟩).mono (fun w' h => six_leaf h)) (HS.out.leaf hjl HKE.out ev1 (.inr rfl) HAB.out.1 HAB.out.2)
        have HS5 := Lib.hid hS5
        clear hS5 hown9 hg9 hf9 hb9
        go_roundg g
        case measure => omega
        case rel => exact ⟨j + 1, o9, 0 + 1, c9, ps5, by omega, by simp, rfl, HS5.out⟩
      by_cases h44 : v = 4
      · skip
        obtain ⟨m, rfl⟩ : ∃ m, n = m + 1 := ⟨n - 1, by omega⟩
        obtain ⟨ps', q, rfl⟩ : ∃ ps' q, ps = ps' ++ [q] := aflast_of (by have := HS.out.len; omega)
        obtain ⟨g5, rfl, hg1, hg2, hnc, hfz, hcl⟩ := HS.out.own_cells (by omega)
        obtain ⟨x0, x1, x2⟩ := hcl m q (by have h9 := HS.out.len; simp at h9; subst h9; simp)
        have z0 := hfz (m * 3)
        have z1 := hfz (m * 3 + 1)
        have z2 := hfz (m * 3 + 2)
        have hm0 : (0 : Int) ≤ (m : Int) := by omega
        have hm1 : (m : Int) < (m : Int) + 1 := by omega
        have n0 : ¬ g5 = wr.heap.size := by omega
        clear hcl hfz
        subst h44
        have e0 : ((m : Int) + 1 == 0) = false := by simp; omega
        have w1 : IntKind.i64.wrap (m : Int) = (m : Int) := IntWalk.i64_in _ (by omega)
        clear h4
        go_wp2_with fail
        obtain ⟨w5, hw5⟩ : ∃ w5, w5 = (((wr.setCell ⟨g5, m * 3, none⟩ (.int .i64 5)).setCell ⟨g5, m * 3 + 1, none⟩ (.slice none 0 0)).setCell ⟨g5, m * 3 + 2, none⟩ (.slice (some ⟨wr.heap.size, 0, none⟩) 1 1)).alloc (.cells #[.int .i64 q.1.kind, q.2.1, q.2.2] 41) := ⟨_, rfl⟩
        rw [← hw5]
        have hbX : Below wr.heap.size wr (wr.alloc (.cells #[.int .i64 q.1.kind, q.2.1, q.2.2] 41)) := bel_new (Below.refl _ _) _
        have hS5 := HS.out.over hbX (hw5.trans (set3_alloc hg2).symm) (p := .mk 5 [] [q.1]) (sv := .slice none 0 0) (lv := .slice (some ⟨wr.heap.size, 0, none⟩) 1 1)
          (afkp_and ((HS.out.own.keep q (by simp)).to (.of hbX)) (KP.block (heap_alloc_new wr _) ⟨HLT.out, fun e => by simp [Value.ownBlock] at e; omega⟩) (fun w' h1 h2 => six_one h1 h2)) (HS.out.star hjl HKE.out ev1 rfl)
        have HS5 := Lib.hid hS5
        clear hS5 hw5 hbX
        go_roundg g
        case measure => omega
        case rel => exact ⟨j + 1, _, m + 1, c, _, by omega, by simp, rfl, HS5.out⟩
      by_cases h1 : n = 1
      · by_cases h8 : v = 8
        · skip
          subst h8
          have HC := Lib.hid h1
          subst h1
          clear h4 h44
          go_wp2_with (at_builtin; refine wpList_append_far _ rfl _ _ 27 rfl (w.heap.size + 1) 41 ip _ 3 56 Tryz.underlying27 hp0 hp1 hp2 hp3 rfl (by decide) (.slice o 1 c) 1 (ps.flatMap thr) rfl (by repeat (first | exact HROW.out | refine World.ownsRow.alloc ?_ _ | refine owns_drew ?_)) _ 1 _ rfl (by exact afrow_new rfl (by simp)) rfl (by simp [Value.oneCell']) (by unfold maxLen; omega) (by omega) (by have := HLT.out; simp; omega) ?_; intro v9 w9 hown9 hg9 hf9 hb9; obtain ⟨o9, c9, rfl⟩ := owns_slice hown9)
          obtain ⟨ps5, hS5⟩ := HS.out.push (p := .mk 1 [] []) (sv := .slice none 0 0) (lv := .slice none 0 0) (by repeat (first | exact Below.refl _ _ | refine Below.drew ?_ | refine bel_new ?_ _)) hown9 rfl hg9 hf9 (fun w' _ => six_nil) (HS.out.empty hjl HKE.out ev1 rfl rfl)
          have HS5 := Lib.hid hS5
          clear hS5 hown9 hg9 hf9 hb9
          go_roundg g
          case measure => omega
          case rel => exact ⟨j + 1, o9, 1 + 1, c9, ps5, by omega, by simp, rfl, HS5.out⟩
        · skip
          have d1 : decide ((v : Int) < 4) = false := by simp; omega
          have d2 : ((v : Int) == 4) = false := by simp; omega
          have d3 : ((v : Int) == 8) = false := by simp; omega
          have HC := Lib.hid (show 4 < v ∧ v ≠ 8 by omega)
          subst h1
          clear h4 h44 h8
          have HS5 := Lib.hid (HS.out.same (HS.out.idle hjl HKE.out ev1 HC.out.1 HC.out.2 rfl))
          go_wp2_with fail
          go_roundg g
          case measure => omega
          case rel => exact ⟨j + 1, o, 1, c, ps, by omega, by simp, rfl, HS5.out⟩
      by_cases h7 : v < 7
      · skip
        obtain ⟨m, rfl⟩ : ∃ m, n = m + 2 := ⟨n - 2, by omega⟩
        obtain ⟨ps1, r, rfl⟩ : ∃ ps1 r, ps = ps1 ++ [r] := aflast_of (by have := HS.out.len; omega)
        obtain ⟨ps', q, rfl⟩ : ∃ ps' q, ps1 = ps' ++ [q] := aflast_of (by have := HS.out.len; simp at this; omega)
        have HQ2 := Lib.hid (show K6 l w j o (m + 2) c (ps' ++ [q, r]) wr by have := HS.out; simpa using this)
        clear HS
        obtain ⟨g5, rfl, hg1, hg2, hnc, hfz, hcl⟩ := HQ2.out.own_cells (by omega)
        have hpm : ps'.length = m := by have := HQ2.out.len; simp at this; omega
        obtain ⟨x0, x1, x2⟩ := hcl m q (by subst hpm; simp)
        obtain ⟨y0, y1, y2⟩ := hcl (m + 1) r (by subst hpm; simp)
        have HXC := Lib.hid (show ∀ w', Below wr.heap.size wr w' → ∀ i u, (ps'.flatMap thr)[i]? = some u → w'.cell? ⟨g5, 0 + i, none⟩ = some u by
          intro w' hb i u hi
          have hr := HQ2.out.own.row
          have h9 := hr.cells (g := g5) rfl i u (by rw [List.flatMap_append, List.getElem?_append_left (List.getElem?_eq_some_iff.1 hi).1]; exact hi)
          have hadd : ((⟨g5, 0, none⟩ : Addr).add i) = ⟨g5, 0 + i, none⟩ := by unfold Addr.add; by_cases e : i = 0 <;> simp [e]
          rw [hadd] at h9
          rw [hb.cell hg2]; exact h9)
        have HPM := Lib.hid (And.intro hpm (thr_len ps'))
        have hm0 : (0 : Int) ≤ (m : Int) := by omega
        have hm2 : (0 : Int) ≤ (m : Int) + 1 := by omega
        have hm3 : (m : Int) < (m : Int) + 2 := by omega
        have hm4 : (m : Int) + 1 < (m : Int) + 2 := by omega
        have hmc : (m : Int) ≤ (c : Int) := by omega
        have n0 : ¬ g5 = wr.heap.size := by omega
        have n1 : ¬ g5 = wr.heap.size + 1 := by omega
        clear hcl hfz hpm
        have e0 : ((m : Int) + 2 == 0) = false := by simp; omega
        have e3 : decide ((1 : Int) < (m : Int) + 2) = true := by simp; omega
        have d1 : decide ((v : Int) < 4) = false := by simp; omega
        have d2 : ((v : Int) == 4) = false := by simp; omega
        have d3 : decide ((v : Int) < 7) = true := by simp; omega
        have HC := Lib.hid (show 4 < v ∧ v < 7 by omega)
        clear h4 h44 h7
        go_upto_region 13 with (fail)
        have w1 : IntKind.i64.wrap (m : Int) = (m : Int) := IntWalk.i64_in _ (by omega)
        have w2 : IntKind.i64.wrap ((m : Int) + 1) = (m : Int) + 1 := IntWalk.i64_in _ (by omega)
        have w4 : IntKind.i64.wrap ((m : Int) + 2 - 1) = (m : Int) + 1 := by rw [IntWalk.i64_in _ (by omega)]; omega
        have w5 : IntKind.i64.wrap ((m : Int) + 2 - 2) = (m : Int) := by rw [IntWalk.i64_in _ (by omega)]; omega
        have w3 : ((m : Int) + 1).toNat = m + 1 := by omega
        go_region_held3 (fun w' => w'.cell? ⟨g5, m * 3, none⟩ = some (.int .i64 q.1.kind) ∧ w'.cell? ⟨g5, m * 3 + 1, none⟩ = some q.2.1 ∧ w'.cell? ⟨g5, m * 3 + 2, none⟩ = some q.2.2 ∧ w'.cell? ⟨g5, (m + 1) * 3, none⟩ = some (.int .i64 r.1.kind) ∧ w'.cell? ⟨g5, (m + 1) * 3 + 1, none⟩ = some r.2.1 ∧ w'.cell? ⟨g5, (m + 1) * 3 + 2, none⟩ = some r.2.2)
          (first | trivial | (refine ⟨?_, ?_, ?_, ?_, ?_, ?_⟩ <;> refine (Below.cell (w := wr) (B := wr.heap.size) ?_ hg2).trans (by assumption) <;> repeat (first | exact Below.refl _ _ | exact hB9 | refine Below.drew ?_ | refine bel_new ?_ _)))
          (first | (with_reducible refine afis_append ?_; refine afstep_append_full _ rfl _ _ 27 rfl (w.heap.size + 1) 41 ip _ 3 56 Tryz.underlying27 hp0 hp1 hp2 hp3 rfl (by decide) g5 0 m (ps'.flatMap thr) rfl (by rw [HPM.out.2, HPM.out.1]) (HXC.out _ (by repeat (first | exact Below.refl _ _ | refine Below.drew ?_ | refine bel_new ?_ _))) (wr.heap.size + 1) [.int .i64 3, .slice none 0 0, .slice (some ⟨wr.heap.size, 0, none⟩) 2 2] rfl (afcells_new (by simp)) rfl (by unfold maxLen; omega) (by omega) (by have := HQ2.out.lt; simp; omega) ?_; intro c9 w9 hown9 hb9; have hB9 : Below wr.heap.size wr w9 := bel_then (by repeat (first | exact Below.refl _ _ | refine Below.drew ?_ | refine bel_new ?_ _)) hb9))
        all_goals (
          have hS5 := HQ2.out.both (G9 := wr.heap.size + 1 + 1) (by repeat (first | exact Below.refl _ _ | refine Below.drew ?_ | refine bel_new ?_ _)) (by simp) (afown_at hown9 (by simp)) (p := .mk 3 [] [q.1, r.1]) rfl hb9
            (afkp_and (afkp_and ((HQ2.out.own.keep q (by simp)).to (.of (by repeat (first | exact Below.refl _ _ | refine Below.drew ?_ | refine bel_new ?_ _)))) ((HQ2.out.own.keep r (by simp)).to (.of (by repeat (first | exact Below.refl _ _ | refine Below.drew ?_ | refine bel_new ?_ _)))) (fun w' h1 h2 => And.intro h1 h2)) (KP.block (b := wr.heap.size) (bel_get (w := wr.alloc _) (by repeat (first | exact Below.refl _ _ | refine Below.drew ?_ | refine bel_new ?_ _)) (heap_alloc_new wr _)) ⟨HLT.out, fun e => by simp [Value.ownBlock] at e; omega⟩) (fun w' h1 h2 => six_two h1.1 h1.2 h2))
            (HQ2.out.pair hjl HKE.out ev1 (by first | exact HC.out.1 | decide) (by rw [if_pos HC.out.2]))
          have HS5 := Lib.hid hS5
          clear hS5 hown9 hb9 hB9 w1 w2 w3 w4 w5
          go_wp2
          go_roundg g
          case measure => omega
          case rel => exact ⟨j + 1, some ⟨wr.heap.size + 1 + 1, 0, none⟩, m + 1, c9, _, by omega, by simp, rfl, HS5.out⟩)
      · skip
        obtain ⟨m, rfl⟩ : ∃ m, n = m + 2 := ⟨n - 2, by omega⟩
        obtain ⟨ps1, r, rfl⟩ : ∃ ps1 r, ps = ps1 ++ [r] := aflast_of (by have := HS.out.len; omega)
        obtain ⟨ps', q, rfl⟩ : ∃ ps' q, ps1 = ps' ++ [q] := aflast_of (by have := HS.out.len; simp at this; omega)
        have HQ2 := Lib.hid (show K6 l w j o (m + 2) c (ps' ++ [q, r]) wr by have := HS.out; simpa using this)
        clear HS
        obtain ⟨g5, rfl, hg1, hg2, hnc, hfz, hcl⟩ := HQ2.out.own_cells (by omega)
        have hpm : ps'.length = m := by have := HQ2.out.len; simp at this; omega
        obtain ⟨x0, x1, x2⟩ := hcl m q (by subst hpm; simp)
        obtain ⟨y0, y1, y2⟩ := hcl (m + 1) r (by subst hpm; simp)
        have HXC := Lib.hid (show ∀ w', Below wr.heap.size wr w' → ∀ i u, (ps'.flatMap thr)[i]? = some u → w'.cell? ⟨g5, 0 + i, none⟩ = some u by
          intro w' hb i u hi
          have hr := HQ2.out.own.row
          have h9 := hr.cells (g := g5) rfl i u (by rw [List.flatMap_append, List.getElem?_append_left (List.getElem?_eq_some_iff.1 hi).1]; exact hi)
          have hadd : ((⟨g5, 0, none⟩ : Addr).add i) = ⟨g5, 0 + i, none⟩ := by unfold Addr.add; by_cases e : i = 0 <;> simp [e]
          rw [hadd] at h9
          rw [hb.cell hg2]; exact h9)
        have HPM := Lib.hid (And.intro hpm (thr_len ps'))
        have hm0 : (0 : Int) ≤ (m : Int) := by omega
        have hm2 : (0 : Int) ≤ (m : Int) + 1 := by omega
        have hm3 : (m : Int) < (m : Int) + 2 := by omega
        have hm4 : (m : Int) + 1 < (m : Int) + 2 := by omega
        have hmc : (m : Int) ≤ (c : Int) := by omega
        have n0 : ¬ g5 = wr.heap.size := by omega
        have n1 : ¬ g5 = wr.heap.size + 1 := by omega
        clear hcl hfz hpm
        have e0 : ((m : Int) + 2 == 0) = false := by simp; omega
        have e3 : decide ((1 : Int) < (m : Int) + 2) = true := by simp; omega
        have d1 : decide ((v : Int) < 4) = false := by simp; omega
        have d2 : ((v : Int) == 4) = false := by simp; omega
        have d3 : decide ((v : Int) < 7) = false := by simp; omega
        have HC := Lib.hid (show 4 < v ∧ ¬ v < 7 by omega)
        clear h4 h44 h7
        go_upto_region 15 with (fail)
        have w1 : IntKind.i64.wrap (m : Int) = (m : Int) := IntWalk.i64_in _ (by omega)
        have w2 : IntKind.i64.wrap ((m : Int) + 1) = (m : Int) + 1 := IntWalk.i64_in _ (by omega)
        have w4 : IntKind.i64.wrap ((m : Int) + 2 - 1) = (m : Int) + 1 := by rw [IntWalk.i64_in _ (by omega)]; omega
        have w5 : IntKind.i64.wrap ((m : Int) + 2 - 2) = (m : Int) := by rw [IntWalk.i64_in _ (by omega)]; omega
        have w3 : ((m : Int) + 1).toNat = m + 1 := by omega
        go_region_held3 (fun w' => w'.cell? ⟨g5, m * 3, none⟩ = some (.int .i64 q.1.kind) ∧ w'.cell? ⟨g5, m * 3 + 1, none⟩ = some q.2.1 ∧ w'.cell? ⟨g5, m * 3 + 2, none⟩ = some q.2.2 ∧ w'.cell? ⟨g5, (m + 1) * 3, none⟩ = some (.int .i64 r.1.kind) ∧ w'.cell? ⟨g5, (m + 1) * 3 + 1, none⟩ = some r.2.1 ∧ w'.cell? ⟨g5, (m + 1) * 3 + 2, none⟩ = some r.2.2)
          (first | trivial | (refine ⟨?_, ?_, ?_, ?_, ?_, ?_⟩ <;> refine (Below.cell (w := wr) (B := wr.heap.size) ?_ hg2).trans (by assumption) <;> repeat (first | exact Below.refl _ _ | exact hB9 | refine Below.drew ?_ | refine bel_new ?_ _)))
          (first | (with_reducible refine afis_append ?_; refine afstep_append_full _ rfl _ _ 27 rfl (w.heap.size + 1) 41 ip _ 3 56 Tryz.underlying27 hp0 hp1 hp2 hp3 rfl (by decide) g5 0 m (ps'.flatMap thr) rfl (by rw [HPM.out.2, HPM.out.1]) (HXC.out _ (by repeat (first | exact Below.refl _ _ | refine Below.drew ?_ | refine bel_new ?_ _))) (wr.heap.size + 1) [.int .i64 4, .slice none 0 0, .slice (some ⟨wr.heap.size, 0, none⟩) 2 2] rfl (afcells_new (by simp)) rfl (by unfold maxLen; omega) (by omega) (by have := HQ2.out.lt; simp; omega) ?_; intro c9 w9 hown9 hb9; have hB9 : Below wr.heap.size wr w9 := bel_then (by repeat (first | exact Below.refl _ _ | refine Below.drew ?_ | refine bel_new ?_ _)) hb9))
        all_goals (
          have hS5 := HQ2.out.both (G9 := wr.heap.size + 1 + 1) (by repeat (first | exact Below.refl _ _ | refine Below.drew ?_ | refine bel_new ?_ _)) (by simp) (afown_at hown9 (by simp)) (p := .mk 4 [] [q.1, r.1]) rfl hb9
            (afkp_and (afkp_and ((HQ2.out.own.keep q (by simp)).to (.of (by repeat (first | exact Below.refl _ _ | refine Below.drew ?_ | refine bel_new ?_ _)))) ((HQ2.out.own.keep r (by simp)).to (.of (by repeat (first | exact Below.refl _ _ | refine Below.drew ?_ | refine bel_new ?_ _)))) (fun w' h1 h2 => And.intro h1 h2)) (KP.block (b := wr.heap.size) (bel_get (w := wr.alloc _) (by repeat (first | exact Below.refl _ _ | refine Below.drew ?_ | refine bel_new ?_ _)) (heap_alloc_new wr _)) ⟨HLT.out, fun e => by simp [Value.ownBlock] at e; omega⟩) (fun w' h1 h2 => six_two h1.1 h1.2 h2))
            (HQ2.out.pair hjl HKE.out ev1 (by first | exact HC.out.1 | decide) (by rw [if_neg HC.out.2]))
          have HS5 := Lib.hid hS5
          clear hS5 hown9 hb9 hB9 w1 w2 w3 w4 w5
          go_wp2
          go_roundg g
          case measure => omega
          case rel => exact ⟨j + 1, some ⟨wr.heap.size + 1 + 1, 0, none⟩, m + 1, c9, _, by omega, by simp, rfl, HS5.out⟩)
    · skip
      have hd : (¬ j < l.length) ∨ (j < l.length ∧ j = 14) := by omega
      have hjn : j ≤ 14 := by omega
      have hje : l.length ≤ j ∨ j = 14 := by omega
      have hrb := HS.out.rb
      obtain ⟨⟨r00, r01, r02⟩, r10, r11, r12⟩ := cells3m_of hrb
      have HRB := Lib.hid hrb
      have HLT := Lib.hid HS.out.lt
      have HJE := Lib.hid (And.intro hjn hje)
      clear hj hrb hje
      have hbr : ∃ b1 : Bool, decide ((j : Int) < (l.length : Int)) = b1 ∧ decide (j < l.length) = b1 ∧ (b1 = true → decide ((j : Int) < 14) = false ∧ decide (j < 14) = false) := by
        rcases hd with h | ⟨h, h2⟩
        · exact ⟨false, by simp; omega, by simpa using h, fun h => by cases h⟩
        · exact ⟨true, by simp; omega, by simpa using h, fun _ => ⟨by simp; omega, by simp; omega⟩⟩
      obtain ⟨b1, hb1, hb2, hb3⟩ := hbr
      clear hd
      rcases Nat.eq_zero_or_pos n with rfl | hn0
      · have HE : Hid (M6.makeR l = M6.oneR 97) := Lib.hid (by
          have h1 := HS.out.run
          have h2 : ps = [] := List.eq_nil_of_length_eq_zero HS.out.len
          rw [h2] at h1
          unfold M6.makeR
          rw [M6.makeR_at HJE.out.1 HJE.out.2, ← h1]
          rfl)
        have HBEL := Lib.hid HS.out.bel
        cases b1 with
        | true =>
          obtain ⟨t1, t2⟩ := hb3 rfl
          clear hb3
          go_wp2_with fail
          refine (one_exact 97 wr).mono ?_
          rintro x w6 ⟨rfl, hw6⟩
          have hb6 : Below wr.heap.size wr w6 := by rw [hw6]; exact bel_new (bel_new (Below.refl _ _) _) _
          have hq6 : w6.heap[wr.heap.size + 1]? = some (.cells #[.int .i32 97, .int .i32 97] 54 (0, 0)) := by
            rw [hw6]
            have h := heap_alloc_new (wr.alloc (.cells #[.int .i64 2, .slice (some ⟨wr.heap.size + 1, 0, none⟩) 1 1, .slice none 0 0] 41)) (.cells #[.int .i32 97, .int .i32 97] 54)
            simpa using h
          clear hw6
          have hrb6 := bel_get hb6 (HRB.out)
          obtain ⟨⟨a0, a1, a2⟩, b0, b1, b2⟩ := cells3m_of hrb6
          have HE6 := Lib.hid (m6_end (l := l) (e := .mk 2 [(97, 97)] []) (sv := .slice (some ⟨wr.heap.size + 1, 0, none⟩) 1 1) (lv := .slice none 0 0) hrb6 (bel_then (HBEL.out) hb6) ((KP.block hq6 (by have := HLT.out; omega)).mono (fun w' h => six_leaf h)) (HE.out))
          clear hq6 hrb6 hb6
          go_wp2_with fail
          obtain ⟨W9, hW, ⟨⟨e0, e1, e2⟩, m0, m1, m2⟩, hpost⟩ := HE6.out
          have HW := Lib.hid hW
          clear hW HE6
          rw [show (.int .i64 2 : Value) = .int .i64 (RE.mk 2 [(97, 97)] []).kind from rfl, ← HW.out]
          refine bodyPost_ret (v := .agg #[.int .i64 2, .slice (some ⟨wr.heap.size + 1, 0, none⟩) 1 1, .slice none 0 0]) (by simp [results, Tryz.results33, go_sem, e0, e1, e2, m0, m1, m2, RE.kind]) rfl hpost
        | false =>
          clear hb3
          go_wp2_with fail
          refine (one_exact 97 wr).mono ?_
          rintro x w6 ⟨rfl, hw6⟩
          have hb6 : Below wr.heap.size wr w6 := by rw [hw6]; exact bel_new (bel_new (Below.refl _ _) _) _
          have hq6 : w6.heap[wr.heap.size + 1]? = some (.cells #[.int .i32 97, .int .i32 97] 54 (0, 0)) := by
            rw [hw6]
            have h := heap_alloc_new (wr.alloc (.cells #[.int .i64 2, .slice (some ⟨wr.heap.size + 1, 0, none⟩) 1 1, .slice none 0 0] 41)) (.cells #[.int .i32 97, .int .i32 97] 54)
            simpa using h
          clear hw6
          have hrb6 := bel_get hb6 (HRB.out)
          obtain ⟨⟨a0, a1, a2⟩, b0, b1, b2⟩ := cells3m_of hrb6
          have HE6 := Lib.hid (m6_end (l := l) (e := .mk 2 [(97, 97)] []) (sv := .slice (some ⟨wr.heap.size + 1, 0, none⟩) 1 1) (lv := .slice none 0 0) hrb6 (bel_then (HBEL.out) hb6) ((KP.block hq6 (by have := HLT.out; omega)).mono (fun w' h => six_leaf h)) (HE.out))
          clear hq6 hrb6 hb6
          go_wp2_with fail
          obtain ⟨W9, hW, ⟨⟨e0, e1, e2⟩, m0, m1, m2⟩, hpost⟩ := HE6.out
          have HW := Lib.hid hW
          clear hW HE6
          rw [show (.int .i64 2 : Value) = .int .i64 (RE.mk 2 [(97, 97)] []).kind from rfl, ← HW.out]
          refine bodyPost_ret (v := .agg #[.int .i64 2, .slice (some ⟨wr.heap.size + 1, 0, none⟩) 1 1, .slice none 0 0]) (by simp [results, Tryz.results33, go_sem, e0, e1, e2, m0, m1, m2, RE.kind]) rfl hpost
      · obtain ⟨g5, rfl, hg1, hg2, hnc, hfz, hcl⟩ := HS.out.own_cells hn0
        obtain ⟨⟨qp, qs, ql⟩, hq⟩ : ∃ q, ps[0]? = some q := ⟨ps[0]'(by have := HS.out.len; omega), by simp⟩
        obtain ⟨⟨o1, c1, e1⟩, ⟨o2, c2, e2⟩⟩ := (HS.out.own.keep _ (List.mem_of_getElem? hq)).here.form
        dsimp only at e1 e2
        subst e1 e2
        obtain ⟨x0, x1, x2⟩ := hcl 0 _ hq
        simp only [Nat.zero_mul, Nat.zero_add] at x0 x1 x2
        have hF := F6.start HS.out HJE.out.1 HJE.out.2 hq hg1 hg2 hcl
        have e0 : ((n : Int) == 0) = false := by simp; omega
        have hn1 : (0 : Int) < (n : Int) := by omega
        have HF := Lib.hid hF
        clear hF hfz hcl hq
        cases b1 with
        | true =>
          obtain ⟨t1, t2⟩ := hb3 rfl
          clear hb3
          go_wp2_with fail
          obtain ⟨pb, hpb⟩ : ∃ pb, pb = wr.heap.size := ⟨_, rfl⟩
          rw [← hpb] at HF ⊢
          have hpbr : w.heap.size < pb := by omega
          clear hpb x0 x1 x2 r00 r01 r02 r10 r11 r12 hg1 hg2
          go_loopg [9] (n - 1) (fun g s9 wx => ∃ (i : Nat) (p : RE) (sv lv : Value), i + g = n ∧ 1 ≤ i ∧ s9 = .int .i64 (i : Int) ∧ F6 l w n g5 pb ps i p sv lv wx)
          case atStart => exact ⟨1, _, _, _, by omega, by omega, rfl, HF.out⟩
          case round =>
            obtain ⟨i, p, sv, lv, hig, hi1, rfl, hK⟩ := hrel
            obtain ⟨⟨o4, c4, rfl⟩, ⟨o5, c5, rfl⟩⟩ := hK.kp.here.form
            have HK := Lib.hid hK
            obtain ⟨⟨p0, p1, p2⟩, f0, f1, f2⟩ := cells3m_of hK.hp
            have hpl := hp_lt hK.hp
            obtain ⟨⟨q00, q01, q02⟩, q10, q11, q12⟩ := cells3m_of hK.rb
            have hgp := hK.gp
            clear hK
            cases gk with
            | zero =>
              obtain rfl : i = n := by omega
              clear hig hi1
              have t5 : decide ((i : Int) < (i : Int)) = false := by simp
              have t6 : decide (i < i) = false := by simp
              have HG : Hid (M6.G6 p ∧ p.size ≤ 29 ∧ M6.makeR l = if p.may = true then p else M6.oneR 98) := Lib.hid (by
                have h1 := HK.out.fld
                rw [List.take_of_length_le (by rw [List.length_map, HK.out.len]; exact Nat.le_refl _), HK.out.run] at h1
                have h2 := M6.foldR_good (M6.good_run l 14)
                rw [← h1] at h2
                refine ⟨h2.1, by omega, ?_⟩
                unfold M6.makeR
                rw [← h1])
              have HM := Lib.hid (rMay_any wr p (.slice o4 p.set.length c4) (.slice o5 p.parts.length c5) wr (by have := HG.out.2.1; omega) HG.out.1.fit HK.out.kp.here (Below.refl _ _))
              go_wp2_with fail
              refine HM.out.mono ?_
              rintro x w5 ⟨rfl, hb5⟩
              have HB5 := Lib.hid hb5
              obtain ⟨⟨p0, p1, p2⟩, f0, f1, f2⟩ := cells3m_of (bel_get hb5 HK.out.hp)
              obtain ⟨⟨q00, q01, q02⟩, q10, q11, q12⟩ := cells3m_of (bel_get hb5 HK.out.rb)
              clear hb5
              cases hmay : p.may with
              | true =>
                have HE6 := Lib.hid (m6_end (l := l) (e := p) (bel_get HB5.out HK.out.rb) (bel_then HK.out.bel HB5.out) ((HK.out.kp.to (.of HB5.out)).sub (fun k _ hk => hk.1)) (by rw [HG.out.2.2, if_pos hmay]))
                go_wp2_with fail
                obtain ⟨W9, hW, ⟨⟨e0, e1, e2⟩, m0, m1, m2⟩, hpost⟩ := HE6.out
                have HW := Lib.hid hW
                clear hW HE6
                rw [← HW.out]
                refine bodyPost_ret (v := .agg #[.int .i64 p.kind, .slice o4 p.set.length c4, .slice o5 p.parts.length c5]) (by simp [results, Tryz.results33, go_sem, e0, e1, e2, m0, m1, m2]) rfl hpost
              | false =>
                have HE := Lib.hid (show M6.makeR l = M6.oneR 98 by rw [HG.out.2.2, if_neg (by rw [hmay]; decide)])
                go_wp2_with fail
                refine (one_exact 98 w5).mono ?_
                rintro x w6 ⟨rfl, hw6⟩
                have hb6 : Below w5.heap.size w5 w6 := by rw [hw6]; exact bel_new (bel_new (Below.refl _ _) _) _
                have hq6 : w6.heap[w5.heap.size + 1]? = some (.cells #[.int .i32 98, .int .i32 98] 54 (0, 0)) := by
                  rw [hw6]
                  have h := heap_alloc_new (w5.alloc (.cells #[.int .i64 2, .slice (some ⟨w5.heap.size + 1, 0, none⟩) 1 1, .slice none 0 0] 41)) (.cells #[.int .i32 98, .int .i32 98] 54)
                  simpa using h
                clear hw6
                have hrb6 := bel_get hb6 (bel_get HB5.out HK.out.rb)
                obtain ⟨⟨a0, a1, a2⟩, b0, b1, b2⟩ := cells3m_of hrb6
                have HE6 := Lib.hid (m6_end (l := l) (e := .mk 2 [(98, 98)] []) (sv := .slice (some ⟨w5.heap.size + 1, 0, none⟩) 1 1) (lv := .slice none 0 0) hrb6 (bel_then (bel_then HK.out.bel HB5.out) hb6) ((KP.block hq6 (by have := hp_lt (bel_get HB5.out HK.out.rb); omega)).mono (fun w' h => six_leaf h)) (HE.out))
                clear hq6 hrb6 hb6
                go_wp2_with fail
                obtain ⟨W9, hW, ⟨⟨e0, e1, e2⟩, m0, m1, m2⟩, hpost⟩ := HE6.out
                have HW := Lib.hid hW
                clear hW HE6
                rw [show (.int .i64 2 : Value) = .int .i64 (RE.mk 2 [(98, 98)] []).kind from rfl, ← HW.out]
                refine bodyPost_ret (v := .agg #[.int .i64 2, .slice (some ⟨w5.heap.size + 1, 0, none⟩) 1 1, .slice none 0 0]) (by simp [results, Tryz.results33, go_sem, e0, e1, e2, m0, m1, m2, RE.kind]) rfl hpost
            | succ g =>
              have hin : i < n := by omega
              obtain ⟨⟨qp', qs', ql'⟩, hq⟩ : ∃ q, ps[i]? = some q := ⟨ps[i]'(by have := HK.out.len; omega), by simp⟩
              obtain ⟨⟨o7, c7, e1⟩, ⟨o8, c8, e2⟩⟩ := (HK.out.el _ (List.mem_of_getElem? hq)).here.form
              dsimp only at e1 e2
              subst e1 e2
              obtain ⟨y0, y1, y2⟩ := HK.out.cells i _ hq
              have t5 : decide (i < n) = true := by simp; omega
              have t6 : (i : Int) < (n : Int) := by omega
              have n0 : ¬ g5 = wr.heap.size := by omega
              have n1 : g5 < wr.heap.size := by omega
              have n2 : ¬ pb = wr.heap.size := by omega
              have HI := Lib.hid (And.intro hi1 hq)
              clear hin hq hi1
              go_upto_region 24 with (fail)
              go_region_law (first | (fail))
              all_goals (
                obtain ⟨w5, hw5⟩ : ∃ w5, w5 = (((wr.setCell ⟨pb, 0, none⟩ (.int .i64 3)).setCell ⟨pb, 1, none⟩ (.slice none 0 0)).setCell ⟨pb, 2, none⟩ (.slice (some ⟨wr.heap.size, 0, none⟩) 2 2)).alloc (.cells #[.int .i64 p.kind, .slice o4 p.set.length c4, .slice o5 p.parts.length c5, .int .i64 qp'.kind, .slice o7 qp'.set.length c7, .slice o8 qp'.parts.length c8] 41) := ⟨_, rfl⟩
                rw [← hw5]
                have hK5 := HK.out.next HI.out.1 HI.out.2 (hw5.trans (set3_alloc hpl).symm)
                have HK5 := Lib.hid (hK5.moved (Below.refl _ _).drew)
                clear hK5 hw5
                go_wp2
                go_roundg g
                case measure => omega
                case rel => exact ⟨i + 1, _, _, _, by omega, by omega, by simp, HK5.out⟩)
        | false =>
          clear hb3
          go_wp2_with fail
          obtain ⟨pb, hpb⟩ : ∃ pb, pb = wr.heap.size := ⟨_, rfl⟩
          rw [← hpb] at HF ⊢
          have hpbr : w.heap.size < pb := by omega
          clear hpb x0 x1 x2 r00 r01 r02 r10 r11 r12 hg1 hg2
          go_loopg [9] (n - 1) (fun g s9 wx => ∃ (i : Nat) (p : RE) (sv lv : Value), i + g = n ∧ 1 ≤ i ∧ s9 = .int .i64 (i : Int) ∧ F6 l w n g5 pb ps i p sv lv wx)
          case atStart => exact ⟨1, _, _, _, by omega, by omega, rfl, HF.out⟩
          case round =>
            obtain ⟨i, p, sv, lv, hig, hi1, rfl, hK⟩ := hrel
            obtain ⟨⟨o4, c4, rfl⟩, ⟨o5, c5, rfl⟩⟩ := hK.kp.here.form
            have HK := Lib.hid hK
            obtain ⟨⟨p0, p1, p2⟩, f0, f1, f2⟩ := cells3m_of hK.hp
            have hpl := hp_lt hK.hp
            obtain ⟨⟨q00, q01, q02⟩, q10, q11, q12⟩ := cells3m_of hK.rb
            have hgp := hK.gp
            clear hK
            cases gk with
            | zero =>
              obtain rfl : i = n := by omega
              clear hig hi1
              have t5 : decide ((i : Int) < (i : Int)) = false := by simp
              have t6 : decide (i < i) = false := by simp
              have HG : Hid (M6.G6 p ∧ p.size ≤ 29 ∧ M6.makeR l = if p.may = true then p else M6.oneR 98) := Lib.hid (by
                have h1 := HK.out.fld
                rw [List.take_of_length_le (by rw [List.length_map, HK.out.len]; exact Nat.le_refl _), HK.out.run] at h1
                have h2 := M6.foldR_good (M6.good_run l 14)
                rw [← h1] at h2
                refine ⟨h2.1, by omega, ?_⟩
                unfold M6.makeR
                rw [← h1])
              have HM := Lib.hid (rMay_any wr p (.slice o4 p.set.length c4) (.slice o5 p.parts.length c5) wr (by have := HG.out.2.1; omega) HG.out.1.fit HK.out.kp.here (Below.refl _ _))
              go_wp2_with fail
              refine HM.out.mono ?_
              rintro x w5 ⟨rfl, hb5⟩
              have HB5 := Lib.hid hb5
              obtain ⟨⟨p0, p1, p2⟩, f0, f1, f2⟩ := cells3m_of (bel_get hb5 HK.out.hp)
              obtain ⟨⟨q00, q01, q02⟩, q10, q11, q12⟩ := cells3m_of (bel_get hb5 HK.out.rb)
              clear hb5
              cases hmay : p.may with
              | true =>
                have HE6 := Lib.hid (m6_end (l := l) (e := p) (bel_get HB5.out HK.out.rb) (bel_then HK.out.bel HB5.out) ((HK.out.kp.to (.of HB5.out)).sub (fun k _ hk => hk.1)) (by rw [HG.out.2.2, if_pos hmay]))
                go_wp2_with fail
                obtain ⟨W9, hW, ⟨⟨e0, e1, e2⟩, m0, m1, m2⟩, hpost⟩ := HE6.out
                have HW := Lib.hid hW
                clear hW HE6
                rw [← HW.out]
                refine bodyPost_ret (v := .agg #[.int .i64 p.kind, .slice o4 p.set.length c4, .slice o5 p.parts.length c5]) (by simp [results, Tryz.results33, go_sem, e0, e1, e2, m0, m1, m2]) rfl hpost
              | false =>
                have HE := Lib.hid (show M6.makeR l = M6.oneR 98 by rw [HG.out.2.2, if_neg (by rw [hmay]; decide)])
                go_wp2_with fail
                refine (one_exact 98 w5).mono ?_
                rintro x w6 ⟨rfl, hw6⟩
                have hb6 : Below w5.heap.size w5 w6 := by rw [hw6]; exact bel_new (bel_new (Below.refl _ _) _) _
                have hq6 : w6.heap[w5.heap.size + 1]? = some (.cells #[.int .i32 98, .int .i32 98] 54 (0, 0)) := by
                  rw [hw6]
                  have h := heap_alloc_new (w5.alloc (.cells #[.int .i64 2, .slice (some ⟨w5.heap.size + 1, 0, none⟩) 1 1, .slice none 0 0] 41)) (.cells #[.int .i32 98, .int .i32 98] 54)
                  simpa using h
                clear hw6
                have hrb6 := bel_get hb6 (bel_get HB5.out HK.out.rb)
                obtain ⟨⟨a0, a1, a2⟩, b0, b1, b2⟩ := cells3m_of hrb6
                have HE6 := Lib.hid (m6_end (l := l) (e := .mk 2 [(98, 98)] []) (sv := .slice (some ⟨w5.heap.size + 1, 0, none⟩) 1 1) (lv := .slice none 0 0) hrb6 (bel_then (bel_then HK.out.bel HB5.out) hb6) ((KP.block hq6 (by have := hp_lt (bel_get HB5.out HK.out.rb); omega)).mono (fun w' h => six_leaf h)) (HE.out))
                clear hq6 hrb6 hb6
                go_wp2_with fail
                obtain ⟨W9, hW, ⟨⟨e0, e1, e2⟩, m0, m1, m2⟩, hpost⟩ := HE6.out
                have HW := Lib.hid hW
                clear hW HE6
                rw [show (.int .i64 2 : Value) = .int .i64 (RE.mk 2 [(98, 98)] []).kind from rfl, ← HW.out]
                refine bodyPost_ret (v := .agg #[.int .i64 2, .slice (some ⟨w5.heap.size + 1, 0, none⟩) 1 1, .slice none 0 0]) (by simp [results, Tryz.results33, go_sem, e0, e1, e2, m0, m1, m2, RE.kind]) rfl hpost
            | succ g =>
              have hin : i < n := by omega
              obtain ⟨⟨qp', qs', ql'⟩, hq⟩ : ∃ q, ps[i]? = some q := ⟨ps[i]'(by have := HK.out.len; omega), by simp⟩
              obtain ⟨⟨o7, c7, e1⟩, ⟨o8, c8, e2⟩⟩ := (HK.out.el _ (List.mem_of_getElem? hq)).here.form
              dsimp only at e1 e2
              subst e1 e2
              obtain ⟨y0, y1, y2⟩ := HK.out.cells i _ hq
              have t5 : decide (i < n) = true := by simp; omega
              have t6 : (i : Int) < (n : Int) := by omega
              have n0 : ¬ g5 = wr.heap.size := by omega
              have n1 : g5 < wr.heap.size := by omega
              have n2 : ¬ pb = wr.heap.size := by omega
              have HI := Lib.hid (And.intro hi1 hq)
              clear hin hq hi1
              go_upto_region 24 with (fail)
              go_region_law (first | (fail))
              all_goals (
                obtain ⟨w5, hw5⟩ : ∃ w5, w5 = (((wr.setCell ⟨pb, 0, none⟩ (.int .i64 3)).setCell ⟨pb, 1, none⟩ (.slice none 0 0)).setCell ⟨pb, 2, none⟩ (.slice (some ⟨wr.heap.size, 0, none⟩) 2 2)).alloc (.cells #[.int .i64 p.kind, .slice o4 p.set.length c4, .slice o5 p.parts.length c5, .int .i64 qp'.kind, .slice o7 qp'.set.length c7, .slice o8 qp'.parts.length c8] 41) := ⟨_, rfl⟩
                rw [← hw5]
                have hK5 := HK.out.next HI.out.1 HI.out.2 (hw5.trans (set3_alloc hpl).symm)
                have HK5 := Lib.hid (hK5.moved (Below.refl _ _).drew)
                clear hK5 hw5
                go_wp2
                go_roundg g
                case measure => omega
                case rel => exact ⟨i + 1, _, _, _, by omega, by omega, by simp, HK5.out⟩)
end Go.Proofs.YtmgfpcblbbpahaaGreat

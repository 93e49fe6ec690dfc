/- gram.Same with its closures; gram.May. -/
import Derived.Test.YtahckikemljlnaaGreatDoorGChk
import Derived.Test.YtahckikemljlnaaGreatDoorPtCount
set_option linter.unusedVariables false
set_option linter.unusedSimpArgs false
namespace Go.Proofs.YtahckikemljlnaaGreatDoor
open Go.RowKit Ru

/-- alike, one by one -/
def allS {α : Type} (f : α → α → Bool) (l m : List α) : Bool := decide (l.length = m.length) && (List.zipWith f l m).all id
def TK.same (a b : TK) : Bool := decide (a.name = b.name) && (decide (a.kind = b.kind) && (decide (a.cls = b.cls) && a.re.same b.re))
def ST.same (a b : ST) : Bool := decide (a.calls = b.calls) && a.p.same b.p
def RU.same (a b : RU) : Bool := decide (a.cls = b.cls) && ((a.free == b.free) && allS ST.same a.steps b.steps)
/-- the steps' cells -/
theorem StsAre.all {w : World} {v : Value} {l : List ST} (h : StsAre w v l) : ∃ (o : Option Addr) (cap : Nat) (co : Nat → Option Addr) (cn cc : Nat → Nat) (kf : Nat → Int) (no : Nat → Option Addr) (nn nc : Nat → Nat) (eo : Nat → Option Addr) (en ec : Nat → Nat) (lo : Nat → Option Addr) (ln lc : Nat → Nat), v = .slice o l.length cap ∧
    ∀ (i : Nat) (s : ST), l[i]? = some s → Row w (.slice (co i) (cn i) (cc i)) s.calls.length (strs s.calls) ∧ kf i = s.p.kind ∧ PtIs w s.p (.slice (no i) (nn i) (nc i)) (.slice (eo i) (en i) (ec i)) (.slice (lo i) (ln i) (lc i)) ∧ ∃ b off, o = some ⟨b, off, none⟩ ∧ b < w.heap.size ∧
      w.cell? ⟨b, off + i * 5, none⟩ = some (.slice (co i) (cn i) (cc i)) ∧ w.cell? ⟨b, off + i * 5 + 1, none⟩ = some (.int .i64 (kf i)) ∧ w.cell? ⟨b, off + i * 5 + 2, none⟩ = some (.slice (no i) (nn i) (nc i)) ∧ w.cell? ⟨b, off + i * 5 + 3, none⟩ = some (.slice (eo i) (en i) (ec i)) ∧ w.cell? ⟨b, off + i * 5 + 4, none⟩ = some (.slice (lo i) (ln i) (lc i)) := by
  have h0 := h
  obtain ⟨ps, rfl, hrow, hall⟩ := h
  have hrow2 := hrow
  obtain ⟨o, cap, rfl, _⟩ := hrow2
  let g : Nat → ST × Value × Value × Value × Value := fun i => ps.getD i (⟨[], .mk 0 [] [] []⟩, .nilIface, .nilIface, .nilIface, .nilIface)
  refine ⟨o, cap, fun i => slO (g i).2.1, fun i => slN (g i).2.1, fun i => slC (g i).2.1, fun i => (g i).1.p.kind, fun i => slO (g i).2.2.1, fun i => slN (g i).2.2.1, fun i => slC (g i).2.2.1, fun i => slO (g i).2.2.2.1, fun i => slN (g i).2.2.2.1, fun i => slC (g i).2.2.2.1, fun i => slO (g i).2.2.2.2, fun i => slN (g i).2.2.2.2, fun i => slC (g i).2.2.2.2, rfl, fun i s hs => ?_⟩
  rw [List.getElem?_map] at hs
  obtain ⟨p, hp, rfl⟩ := Option.map_eq_some_iff.1 hs
  have hg : g i = p := by show ps.getD i _ = p; rw [List.getD, hp]; rfl
  simp only [hg]
  have hi : i < ps.length := (List.getElem?_eq_some_iff.1 hp).1
  obtain ⟨b, off, cap', e, hb, hc⟩ := hrow.cells' (by simp; omega)
  simp only [Value.slice.injEq, true_and] at e
  obtain ⟨rfl, rfl⟩ := e
  obtain ⟨h1, h2⟩ := hall i p hp
  have h1' := h1
  obtain ⟨co, cc, e1, _⟩ := h1'
  obtain ⟨⟨x1, y1, e2⟩, ⟨x2, y2, e3⟩, ⟨x3, y3, e4⟩⟩ := h2.form
  have hget : ∀ j u, (five p)[j]? = some u → j < 5 → w.cell? ⟨b, off + (i * 5 + j), none⟩ = some u := fun j u hu hj => hc _ _ (by rw [fm_get five 5 (fun _ => rfl) ps i j p hp hj]; exact hu)
  have g0 := hget 0 _ rfl (by omega)
  have g1 := hget 1 _ rfl (by omega)
  have g2 := hget 2 _ rfl (by omega)
  have g3 := hget 3 _ rfl (by omega)
  have g4 := hget 4 _ rfl (by omega)
  rw [e1] at g0 h1 ⊢
  rw [e2] at g2 h2 ⊢
  rw [e3] at g3 h2 ⊢
  rw [e4] at g4 h2 ⊢
  exact ⟨h1, trivial, h2, b, off, rfl, hb, g0, by rw [Nat.add_assoc]; exact g1, by rw [Nat.add_assoc]; exact g2, by rw [Nat.add_assoc]; exact g3, by rw [Nat.add_assoc]; exact g4⟩
/-- the rules' cells -/
theorem RusAre.all {w : World} {v : Value} {l : List RU} (h : RusAre w v l) : ∃ (o : Option Addr) (cap : Nat) (cl : Nat → Int) (fr : Nat → Bool) (so : Nat → Option Addr) (sn sc : Nat → Nat), v = .slice o l.length cap ∧
    ∀ (i : Nat) (s : RU), l[i]? = some s → cl i = s.cls ∧ fr i = s.free ∧ StsAre w (.slice (so i) (sn i) (sc i)) s.steps ∧ ∃ b off, o = some ⟨b, off, none⟩ ∧ b < w.heap.size ∧
      w.cell? ⟨b, off + i * 3, none⟩ = some (.int .i64 (cl i)) ∧ w.cell? ⟨b, off + i * 3 + 1, none⟩ = some (.bool (fr i)) ∧ w.cell? ⟨b, off + i * 3 + 2, none⟩ = some (.slice (so i) (sn i) (sc i)) := by
  obtain ⟨ps, rfl, hrow, hall⟩ := h
  have hrow2 := hrow
  obtain ⟨o, cap, rfl, _⟩ := hrow2
  let g : Nat → RU × Value := fun i => ps.getD i (⟨0, false, []⟩, .nilIface)
  refine ⟨o, cap, fun i => (g i).1.cls, fun i => (g i).1.free, fun i => slO (g i).2, fun i => slN (g i).2, fun i => slC (g i).2, rfl, fun i s hs => ?_⟩
  rw [List.getElem?_map] at hs
  obtain ⟨p, hp, rfl⟩ := Option.map_eq_some_iff.1 hs
  have hg : g i = p := by show ps.getD i _ = p; rw [List.getD, hp]; rfl
  simp only [hg]
  have hi : i < ps.length := (List.getElem?_eq_some_iff.1 hp).1
  obtain ⟨b, off, cap', e, hb, hc⟩ := hrow.cells' (by simp; omega)
  simp only [Value.slice.injEq, true_and] at e
  obtain ⟨rfl, rfl⟩ := e
  have h1 := hall i p hp
  obtain ⟨so, sc, e1⟩ := h1.form
  have hget : ∀ j u, (three p)[j]? = some u → j < 3 → w.cell? ⟨b, off + (i * 3 + j), none⟩ = some u := fun j u hu hj => hc _ _ (by rw [fm_get three 3 (fun _ => rfl) ps i j p hp hj]; exact hu)
  have g0 := hget 0 _ rfl (by omega)
  have g1 := hget 1 _ rfl (by omega)
  have g2 := hget 2 _ rfl (by omega)
  rw [e1] at g2 h1 ⊢
  exact ⟨trivial, trivial, h1, b, off, rfl, hb, g0, by rw [Nat.add_assoc]; exact g1, by rw [Nat.add_assoc]; exact g2⟩
end Go.Proofs.YtahckikemljlnaaGreatDoor

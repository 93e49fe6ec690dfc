/- word: one. -/
import Derived.Shelf.Strconv.Clone
import Derived.Shelf.Small.Strs
import Derived.Shelf.SlSortCmp.WholeK
import Derived.Ground.NamesProg
import Derived.Ground.SlsfProg
import Derived.Shelf.SlGeneric
import Derived.Test.YtahckikemljlnaaGreatDoorProg
import Derived.Test.YtahckikemljlnaaGreatDoorDecAll0
import Derived.WalkSpells
set_option linter.unusedVariables false
set_option linter.unusedSimpArgs false
namespace Go.Proofs.YtahckikemljlnaaGreatDoor
open De
namespace Wd
def isLow (c : Int) : Bool := decide (97 ≤ c ∧ c ≤ 122)
def isDig (c : Int) : Bool := decide (48 ≤ c ∧ c ≤ 57)
def notNl (c : Int) : Bool := !(decide (c = 10))
def lowDig (c : Int) : Bool := isLow c || isDig c
def signs : List Int := [123, 125, 40, 41, 124, 42, 94, 60, 62, 58, 95, 61]
def isSign (c : Int) : Bool := decide (c ∈ signs)
def rn (p : Int → Bool) : List Int → Nat
  | [] => 0
  | c :: t => if p c = true then rn p t + 1 else 0
def ex : Bool → List Int → Option Nat
  | _, [] => none
  | e, c :: t => if c = 10 then none else if e = true then (ex false t).map (· + 1) else if c = 47 then some 0 else (ex (decide (c = 92)) t).map (· + 1)
structure Wt where
  k : Int
  o : Nat
  n : Nat
  z : Nat
def wd : List Int → Option Wt
  | [] => none
  | c :: t =>
    if c = 32 ∨ c = 9 ∨ c = 13 then some ⟨0, 0, 0, 1⟩
    else if c = 35 then some ⟨0, 0, 0, rn notNl (c :: t)⟩
    else if c = 10 then some ⟨5, 0, 0, 1⟩
    else if c = 47 then (ex false t).map fun n => ⟨4, 1, n, n + 2⟩
    else if isLow c = true then some ⟨1, 0, rn lowDig (c :: t), rn lowDig (c :: t)⟩
    else if isDig c = true then some ⟨2, 0, rn isDig (c :: t), rn isDig (c :: t)⟩
    else if isSign c = true then some ⟨3, 0, 1, 1⟩
    else none

theorem rn_le (p : Int → Bool) (l : List Int) : rn p l ≤ l.length := by
  induction l with
  | nil => simp [rn]
  | cons c t ih => simp only [rn]; split <;> simp <;> omega
theorem rn_pos {p : Int → Bool} {c : Int} {t : List Int} (h : p c = true) : 1 ≤ rn p (c :: t) := by simp [rn, h]
theorem ex_some {e : Bool} {l : List Int} {n : Nat} (h : ex e l = some n) : n < l.length ∧ l[n]? = some 47 := by
  induction l generalizing e n with
  | nil => simp [ex] at h
  | cons c t ih =>
    simp only [ex] at h
    split at h
    · cases h
    split at h
    · simp only [Option.map_eq_some_iff] at h
      obtain ⟨m, hm, rfl⟩ := h
      have := ih hm
      simp; exact this
    split at h
    · simp at h; subst h; simp [*]
    · simp only [Option.map_eq_some_iff] at h
      obtain ⟨m, hm, rfl⟩ := h
      have := ih hm
      simp; exact this

theorem wd_ok {l : List Int} {x : Wt} (h : wd l = some x) : 1 ≤ x.z ∧ x.z ≤ l.length ∧ 0 ≤ x.k ∧ x.k ≤ 5 ∧
    (x.k = 0 → x.o = 0 ∧ x.n = 0) ∧ (1 ≤ x.k ∧ x.k ≤ 3 → x.o = 0 ∧ x.n = x.z) ∧ (x.k = 4 → x.o = 1 ∧ x.z = x.n + 2 ∧ l[0]? = some 47 ∧ l[x.n + 1]? = some 47) ∧ (x.k = 5 → x.o = 0 ∧ x.n = 0 ∧ x.z = 1 ∧ l[0]? = some 10) := by
  cases l with
  | nil => simp [wd] at h
  | cons c t =>
    have r1 := rn_le notNl (c :: t)
    have r2 := rn_le lowDig (c :: t)
    have r3 := rn_le isDig (c :: t)
    simp only [wd] at h
    split at h
    · cases h; simp
    split at h
    · rename_i h2
      have := rn_pos (p := notNl) (c := c) (t := t) (by simp [notNl, h2])
      cases h; refine ⟨this, r1, ?_⟩; simp
    split at h
    · rename_i h3; cases h; simp [h3]
    split at h
    · rename_i h4
      simp only [Option.map_eq_some_iff] at h
      obtain ⟨n, hn, rfl⟩ := h
      have := ex_some hn
      refine ⟨by simp, by simp; omega, by simp, by simp, by simp, by simp, fun _ => ⟨rfl, rfl, by simp [h4], by simpa using this.2⟩, by simp⟩
    split at h
    · rename_i h5
      have := rn_pos (p := lowDig) (c := c) (t := t) (by simp [lowDig, h5])
      cases h; refine ⟨this, r2, ?_⟩; simp
    split at h
    · rename_i h6
      have := rn_pos (p := isDig) (c := c) (t := t) h6
      cases h; refine ⟨this, r3, ?_⟩; simp
    split at h
    · cases h; simp
    · cases h

def sc (a : Nat) (l : List Int) : List (Nat × Wt) × Option Nat :=
  if h : l = [] then ([], none) else
  match wd l with
  | none => ([], some a)
  | some x =>
    let r := sc (a + max x.z 1) (l.drop (max x.z 1))
    (if x.k = 0 then r.1 else (a, x) :: r.1, r.2)
termination_by l.length
decreasing_by
  rw [List.length_drop]
  have : 0 < l.length := List.length_pos_iff.2 h
  omega
theorem sc_cons {a : Nat} {l : List Int} {x : Wt} (h : wd l = some x) : sc a l = (if x.k = 0 then (sc (a + x.z) (l.drop x.z)).1 else (a, x) :: (sc (a + x.z) (l.drop x.z)).1, (sc (a + x.z) (l.drop x.z)).2) := by
  have hl : l ≠ [] := by rintro rfl; simp [wd] at h
  have hz : max x.z 1 = x.z := by have := (wd_ok h).1; omega
  conv => lhs; unfold sc
  rw [dif_neg hl, h]
  simp only [hz]
def fb (l : List Int) : Nat := match (all 0 l).find? (·.2.bad) with | some p => p.1 | none => l.length
inductive Rs where
  | bad (code : Int) (at_ : Nat)
  | ok (W : List (Nat × Wt))
def rs (l : List Int) : Rs :=
  if 4000 < l.length then .bad 6 0
  else match (sc 0 l).2 with
    | some a => .bad 2 (min a (fb l))
    | none => if fb l < l.length then .bad 2 (fb l) else .ok (sc 0 l).1
end Wd
end Go.Proofs.YtahckikemljlnaaGreatDoor

namespace Go.Proofs.YtahckikemljlnaaGreatDoor
open Go.Shelf
def Tryz.indexB_ren : Go.Shelf.Ren := ⟨fun | 137 => 141 | 217 => 188 | 266 => 214 | n => n, fun | 9 => 9 | 5 => 5 | 3 => 3 | n => n, fun | n => n⟩
theorem Tryz.indexB : Go.Proofs.Lays.n137 Tryz.prog Tryz.indexB_ren := {
  mixed := by kernel_rfl
  f137 := Tryz.func141.trans (congrArg some (by kernel_rfl))
  f217 := Tryz.func188.trans (congrArg some (by kernel_rfl))
  f266 := Tryz.func214.trans (congrArg some (by kernel_rfl))
  t3 := Tryz.underlying3
  a3 := Tryz.isAgg3
  z3 := Tryz.sizeOf3
  v3 := Tryz.zeroValue3
  t5 := Tryz.underlying5
  a5 := Tryz.isAgg5
  z5 := Tryz.sizeOf5
  v5 := Tryz.zeroValue5
  t9 := Tryz.underlying9
  a9 := Tryz.isAgg9
  z9 := Tryz.sizeOf9
  v9 := Tryz.zeroValue9 }
def Tryz.sortR_ren : Go.Shelf.Ren := ⟨fun | 6 => 281 | 15 => 278 | 14 => 299 | 28 => 294 | 29 => 234 | 20 => 309 | 21 => 310 | 22 => 311 | 23 => 312 | 24 => 313 | 25 => 314 | 26 => 315 | 27 => 316 | 46 => 318 | 47 => 302 | 48 => 303 | 49 => 319 | 50 => 320 | 57 => 321 | n => n, fun | 22 => 32 | 24 => 86 | 25 => 301 | 3 => 3 | 39 => 37 | 0 => 0 | 53 => 44 | 55 => 226 | 4 => 4 | 46 => 304 | 45 => 303 | 50 => 308 | 5 => 5 | 9 => 9 | 66 => 312 | 70 => 316 | 76 => 323 | 77 => 83 | n => n, fun | n => n⟩
theorem Tryz.sortR : Go.Proofs.SlLaysF0.n6 Tryz.prog Tryz.sortR_ren := {
  mixed := by kernel_rfl
  f6 := ⟨Tryz.f281.name, by decide, Tryz.func281.trans (congrArg some (by kernel_rfl))⟩
  f14 := ⟨Tryz.f299.name, by decide, Tryz.func299.trans (congrArg some (by kernel_rfl))⟩
  f15 := Tryz.func278.trans (congrArg some (by kernel_rfl))
  f20 := ⟨Tryz.f309.name, by decide, Tryz.func309.trans (congrArg some (by kernel_rfl))⟩
  f21 := ⟨Tryz.f310.name, by decide, Tryz.func310.trans (congrArg some (by kernel_rfl))⟩
  f22 := ⟨Tryz.f311.name, by decide, Tryz.func311.trans (congrArg some (by kernel_rfl))⟩
  f23 := ⟨Tryz.f312.name, by decide, Tryz.func312.trans (congrArg some (by kernel_rfl))⟩
  f24 := ⟨Tryz.f313.name, by decide, Tryz.func313.trans (congrArg some (by kernel_rfl))⟩
  f25 := ⟨Tryz.f314.name, by decide, Tryz.func314.trans (congrArg some (by kernel_rfl))⟩
  f26 := ⟨Tryz.f315.name, by decide, Tryz.func315.trans (congrArg some (by kernel_rfl))⟩
  f27 := ⟨Tryz.f316.name, by decide, Tryz.func316.trans (congrArg some (by kernel_rfl))⟩
  f28 := Tryz.func294.trans (congrArg some (by kernel_rfl))
  f29 := Tryz.func234.trans (congrArg some (by kernel_rfl))
  f46 := ⟨Tryz.f318.name, by decide, Tryz.func318.trans (congrArg some (by kernel_rfl))⟩
  f47 := Tryz.func302.trans (congrArg some (by kernel_rfl))
  f48 := Tryz.func303.trans (congrArg some (by kernel_rfl))
  f49 := ⟨Tryz.f319.name, by decide, Tryz.func319.trans (congrArg some (by kernel_rfl))⟩
  f50 := ⟨Tryz.f320.name, by decide, Tryz.func320.trans (congrArg some (by kernel_rfl))⟩
  f57 := ⟨Tryz.f321.name, by decide, Tryz.func321.trans (congrArg some (by kernel_rfl))⟩
  t0 := Tryz.underlying0
  a0 := Tryz.isAgg0
  z0 := Tryz.sizeOf0
  v0 := Tryz.zeroValue0
  t3 := Tryz.underlying3
  a3 := Tryz.isAgg3
  z3 := Tryz.sizeOf3
  v3 := Tryz.zeroValue3
  t4 := Tryz.underlying4
  a4 := Tryz.isAgg4
  z4 := Tryz.sizeOf4
  v4 := Tryz.zeroValue4
  t5 := Tryz.underlying5
  a5 := Tryz.isAgg5
  z5 := Tryz.sizeOf5
  v5 := Tryz.zeroValue5
  t9 := Tryz.underlying9
  a9 := Tryz.isAgg9
  z9 := Tryz.sizeOf9
  v9 := Tryz.zeroValue9
  t22 := Tryz.underlying32
  a22 := Tryz.isAgg32
  z22 := Tryz.sizeOf32
  v22 := Tryz.zeroValue32
  t25 := Tryz.underlying301
  a25 := Tryz.isAgg301
  z25 := Tryz.sizeOf301
  v25 := Tryz.zeroValue301
  t39 := Tryz.underlying37
  a39 := Tryz.isAgg37
  z39 := Tryz.sizeOf37
  v39 := Tryz.zeroValue37
  t45 := Tryz.underlying303
  a45 := Tryz.isAgg303
  z45 := Tryz.sizeOf303
  v45 := Tryz.zeroValue303
  t46 := Tryz.underlying304
  a46 := Tryz.isAgg304
  z46 := Tryz.sizeOf304
  v46 := Tryz.zeroValue304
  t50 := Tryz.underlying308
  a50 := Tryz.isAgg308
  z50 := Tryz.sizeOf308
  v50 := Tryz.zeroValue308
  t53 := Tryz.underlying44
  a53 := Tryz.isAgg44
  z53 := Tryz.sizeOf44
  v53 := Tryz.zeroValue44
  t55 := Tryz.underlying226
  a55 := Tryz.isAgg226
  z55 := Tryz.sizeOf226
  v55 := Tryz.zeroValue226
  t66 := Tryz.underlying312
  a66 := Tryz.isAgg312
  z66 := Tryz.sizeOf312
  v66 := Tryz.zeroValue312
  t70 := Tryz.underlying316
  a70 := Tryz.isAgg316
  z70 := Tryz.sizeOf316
  v70 := Tryz.zeroValue316
  t76 := Tryz.underlying323
  a76 := Tryz.isAgg323
  z76 := Tryz.sizeOf323
  v76 := Tryz.zeroValue323
  t77 := Tryz.underlying83
  a77 := Tryz.isAgg83
  z77 := Tryz.sizeOf83
  v77 := Tryz.zeroValue83 }
end Go.Proofs.YtahckikemljlnaaGreatDoor

namespace Go.Proofs.YtahckikemljlnaaGreatDoor
open Go.RowKit De Wd

theorem ret_bool {a b : Bool} (h : a = b) : Ending.returned (.bool a) = .returned (.bool b) := by rw [h]
end Go.Proofs.YtahckikemljlnaaGreatDoor

namespace Go.Proofs.YtahckikemljlnaaGreatDoor
open Go.RowKit De Wd

abbrev flt (code at_ : Int) : Ending := .panicked [{ v := .iface 126 (.agg #[.int .i64 code, .int .i64 at_]), recovered := false }]
end Go.Proofs.YtahckikemljlnaaGreatDoor

namespace Go.Proofs.YtahckikemljlnaaGreatDoor
open Go.RowKit De Wd

def wval (s : ByteArray) (a : Nat) (x : Wt) : List Value := [.int .i64 x.k, .string (s.extract (a + x.o) (a + x.o + x.n)), .int .i64 (if x.k = 0 then 0 else (a : Int))]
theorem cells3_of {w : World} {p : Nat} {a b c : Value} {t : TypeId} (h : w.heap[p]? = some (.cells #[a, b, c] t (0, 0))) :
    (w.cell? ⟨p, 0, none⟩ = some a ∧ w.cell? ⟨p, 1, none⟩ = some b ∧ w.cell? ⟨p, 2, none⟩ = some c) ∧ w.frozen? ⟨p, 0, none⟩ = false ∧ w.frozen? ⟨p, 1, none⟩ = false ∧ w.frozen? ⟨p, 2, none⟩ = false := by
  simp [World.cell?, World.frozen?, h]
end Go.Proofs.YtahckikemljlnaaGreatDoor

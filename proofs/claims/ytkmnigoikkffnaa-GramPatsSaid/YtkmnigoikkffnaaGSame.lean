/- gram.Same with its closures; gram.May. -/
import Derived.Test.YtkmnigoikkffnaaGChk
import Derived.Test.YtkmnigoikkffnaaPtCount
set_option linter.unusedVariables false
set_option linter.unusedSimpArgs false
namespace Go.Proofs.Ytkmnigoikkffnaa
open Go.RowKit Ru

/-- alike, one by one -/
def allS {α : Type} (f : α → α → Bool) (l m : List α) : Bool := decide (l.length = m.length) && (List.zipWith f l m).all id
theorem allS_true {α : Type} {f : α → α → Bool} {l m : List α} (hl : l.length = m.length) (h : ∀ (i : Nat) (x y : α), l[i]? = some x → m[i]? = some y → f x y = true) : allS f l m = true := by
  unfold allS
  rw [decide_eq_true hl, Bool.true_and, List.all_eq_true]
  intro b hb
  obtain ⟨i, hi, rfl⟩ := List.getElem_of_mem hb
  rw [List.length_zipWith] at hi
  rw [List.getElem_zipWith]
  exact h i _ _ (List.getElem?_eq_getElem (by omega)) (List.getElem?_eq_getElem (by omega))
theorem allS_len {α : Type} {f : α → α → Bool} {l m : List α} (hl : l.length ≠ m.length) : allS f l m = false := by unfold allS; rw [decide_eq_false hl]; rfl
theorem allS_at {α : Type} {f : α → α → Bool} {l m : List α} {i : Nat} {x y : α} (hx : l[i]? = some x) (hy : m[i]? = some y) (h : f x y = false) : allS f l m = false := by
  cases hz : allS f l m with
  | false => rfl
  | true =>
    unfold allS at hz
    rw [Bool.and_eq_true, List.all_eq_true] at hz
    have hi := (List.getElem?_eq_some_iff.1 hx)
    have hj := (List.getElem?_eq_some_iff.1 hy)
    obtain ⟨hi, rfl⟩ := hi
    obtain ⟨hj, rfl⟩ := hj
    have hk : i < (List.zipWith f l m).length := by rw [List.length_zipWith]; omega
    have := hz.2 _ (List.getElem_mem hk)
    rw [List.getElem_zipWith] at this
    exact absurd (h.symm.trans this) (by simp)
theorem allS_refl {α : Type} {f : α → α → Bool} (hf : ∀ x, f x x = true) (l : List α) : allS f l l = true :=
  allS_true rfl fun i x y hx hy => by rw [hx] at hy; cases hy; exact hf x
def TK.same (a b : TK) : Bool := decide (a.name = b.name) && (decide (a.kind = b.kind) && (decide (a.cls = b.cls) && a.re.same b.re))
def ST.same (a b : ST) : Bool := decide (a.calls = b.calls) && a.p.same b.p
def RU.same (a b : RU) : Bool := decide (a.cls = b.cls) && ((a.free == b.free) && allS ST.same a.steps b.steps)
theorem TK.same_refl (a : TK) : a.same a = true := by simp [TK.same, RE.same_refl]
theorem ST.same_refl (a : ST) : a.same a = true := by simp [ST.same, PT.same_refl]
theorem RU.same_refl (a : RU) : a.same a = true := by simp [RU.same, allS_refl ST.same_refl]

set_option maxHeartbeats 8000000 in
set_option maxRecDepth 100000 in
theorem tkSame_eqf (n m : Nat) (oa ob : Option Addr) (pa pb : Nat) (a0 : Nat → ByteArray) (a1 : Nat → Int) (a2 : Nat → Int) (a3 : Nat → Int) (a4o : Nat → Option Addr) (a4n a4c : Nat → Nat) (a5o : Nat → Option Addr) (a5n a5c : Nat → Nat) (b0 : Nat → ByteArray) (b1 : Nat → Int) (b2 : Nat → Int) (b3 : Nat → Int) (b4o : Nat → Option Addr) (b4n b4c : Nat → Nat) (b5o : Nat → Option Addr) (b5n b5c : Nat → Nat) (St : Nat → World → Prop) (Fin : Nat → World → Prop) (w : World) (hn : n ≤ 1000000) (hm : m ≤ 1000000)
    (hea : ∀ i, n = m → i < n → ∃ b off, oa = some ⟨b, off, none⟩ ∧ ∀ w', St i w' → w'.cell? ⟨b, off + i * 6, none⟩ = some (.string (a0 i)) ∧ w'.cell? ⟨b, off + i * 6 + 1, none⟩ = some (.int .i64 (a1 i)) ∧ w'.cell? ⟨b, off + i * 6 + 2, none⟩ = some (.int .i64 (a2 i)) ∧ w'.cell? ⟨b, off + i * 6 + 3, none⟩ = some (.int .i64 (a3 i)) ∧ w'.cell? ⟨b, off + i * 6 + 4, none⟩ = some (.slice (a4o i) (a4n i) (a4c i)) ∧ w'.cell? ⟨b, off + i * 6 + 5, none⟩ = some (.slice (a5o i) (a5n i) (a5c i)))
    (heb : ∀ i, n = m → i < n → ∃ b off, ob = some ⟨b, off, none⟩ ∧ ∀ w', St i w' → w'.cell? ⟨b, off + i * 6, none⟩ = some (.string (b0 i)) ∧ w'.cell? ⟨b, off + i * 6 + 1, none⟩ = some (.int .i64 (b1 i)) ∧ w'.cell? ⟨b, off + i * 6 + 2, none⟩ = some (.int .i64 (b2 i)) ∧ w'.cell? ⟨b, off + i * 6 + 3, none⟩ = some (.int .i64 (b3 i)) ∧ w'.cell? ⟨b, off + i * 6 + 4, none⟩ = some (.slice (b4o i) (b4n i) (b4c i)) ∧ w'.cell? ⟨b, off + i * 6 + 5, none⟩ = some (.slice (b5o i) (b5n i) (b5c i)))
    (hf : ∀ i w' w'', n = m → i < n → St i w' → Below w'.heap.size w' w'' → Calls Try.prog 35 #[.agg #[.string (a0 i), .int .i64 (a1 i), .int .i64 (a2 i), .int .i64 (a3 i), .slice (a4o i) (a4n i) (a4c i), .slice (a5o i) (a5n i) (a5c i)], .agg #[.string (b0 i), .int .i64 (b1 i), .int .i64 (b2 i), .int .i64 (b3 i), .slice (b4o i) (b4n i) (b4c i), .slice (b5o i) (b5n i) (b5c i)]] w'' fun e w3 => (e = .returned (.bool true) ∧ St (i + 1) w3) ∨ (e = .returned (.bool false) ∧ Fin i w3))
    (h0 : St 0 w) :
    Calls Try.prog 41 #[.slice oa n pa, .slice ob m pb, .func (Fn.func 35) #[] #[]] w fun e w' => (n ≠ m ∧ e = .returned (.bool false) ∧ w = w') ∨ (n = m ∧ e = .returned (.bool true) ∧ St n w') ∨ (n = m ∧ ∃ i : Nat, i < n ∧ e = .returned (.bool false) ∧ Fin i w') := by
  have HEA := Lib.hid hea
  have HEB := Lib.hid heb
  have HF := Lib.hid hf
  have H0 := Lib.hid h0
  clear hea heb hf h0
  by_cases hnm : n = m
  case neg =>
    have hne : ((n : Int) == (m : Int)) = false := by simp; omega
    have hne' : ¬ (n : Int) = (m : Int) := by omega
    go_enter Try.func41, Try.ntmps41
    go_wp2_with fail
    go_ret
    exact .inl ⟨hnm, rfl, rfl⟩
  subst hnm
  go_enter Try.func41, Try.ntmps41
  go_wp2_with fail
  go_loopg [17] n (fun g i wx => ∃ k : Nat, k + g = n ∧ i = .int .i64 k ∧ St k wx)
  case atStart => exact ⟨0, by omega, rfl, H0.out⟩
  case round =>
    obtain ⟨k, hkg, rfl, hSt⟩ := hrel
    obtain ⟨wo, rfl⟩ : ∃ wo : World, wo = wr := ⟨_, rfl⟩
    cases gk with
    | zero =>
      obtain rfl : k = n := by omega
      have hd : decide ((k : Int) < (k : Int)) = false := by simp
      have HS := Lib.hid hSt
      clear hSt
      go_wp2
      go_ret
      exact .inr (.inl ⟨by first | rfl | trivial, rfl, HS.out⟩)
    | succ g =>
      have hk : k < n := by omega
      have hd : decide ((k : Int) < (n : Int)) = true := by simp; omega
      have hk1 : (0 : Int) ≤ (k : Int) := by omega
      have hk2 : (k : Int) < (n : Int) := by omega
      have hk9 : (k : Int) ≤ 1000000 := by omega
      obtain ⟨bq1, fq1, rfl, hcell1⟩ := HEA.out k (by first | rfl | trivial) hk
      obtain ⟨bq2, fq2, rfl, hcell2⟩ := HEB.out k (by first | rfl | trivial) hk
      have KK := And.intro (hcell1 wo hSt) (hcell2 wo hSt)
      have hc := fun w'' => HF.out k wo w'' (by first | rfl | trivial) hk hSt
      obtain ⟨xa0, hxa0⟩ : ∃ d, d = a0 k := ⟨_, rfl⟩
      rw [← hxa0] at KK hc
      clear hxa0
      obtain ⟨xa1, hxa1⟩ : ∃ d, d = a1 k := ⟨_, rfl⟩
      rw [← hxa1] at KK hc
      clear hxa1
      obtain ⟨xa2, hxa2⟩ : ∃ d, d = a2 k := ⟨_, rfl⟩
      rw [← hxa2] at KK hc
      clear hxa2
      obtain ⟨xa3, hxa3⟩ : ∃ d, d = a3 k := ⟨_, rfl⟩
      rw [← hxa3] at KK hc
      clear hxa3
      obtain ⟨xa4o, hxa4o⟩ : ∃ d, d = a4o k := ⟨_, rfl⟩
      rw [← hxa4o] at KK hc
      clear hxa4o
      obtain ⟨xa4n, hxa4n⟩ : ∃ d, d = a4n k := ⟨_, rfl⟩
      rw [← hxa4n] at KK hc
      clear hxa4n
      obtain ⟨xa4c, hxa4c⟩ : ∃ d, d = a4c k := ⟨_, rfl⟩
      rw [← hxa4c] at KK hc
      clear hxa4c
      obtain ⟨xa5o, hxa5o⟩ : ∃ d, d = a5o k := ⟨_, rfl⟩
      rw [← hxa5o] at KK hc
      clear hxa5o
      obtain ⟨xa5n, hxa5n⟩ : ∃ d, d = a5n k := ⟨_, rfl⟩
      rw [← hxa5n] at KK hc
      clear hxa5n
      obtain ⟨xa5c, hxa5c⟩ : ∃ d, d = a5c k := ⟨_, rfl⟩
      rw [← hxa5c] at KK hc
      clear hxa5c
      obtain ⟨xb0, hxb0⟩ : ∃ d, d = b0 k := ⟨_, rfl⟩
      rw [← hxb0] at KK hc
      clear hxb0
      obtain ⟨xb1, hxb1⟩ : ∃ d, d = b1 k := ⟨_, rfl⟩
      rw [← hxb1] at KK hc
      clear hxb1
      obtain ⟨xb2, hxb2⟩ : ∃ d, d = b2 k := ⟨_, rfl⟩
      rw [← hxb2] at KK hc
      clear hxb2
      obtain ⟨xb3, hxb3⟩ : ∃ d, d = b3 k := ⟨_, rfl⟩
      rw [← hxb3] at KK hc
      clear hxb3
      obtain ⟨xb4o, hxb4o⟩ : ∃ d, d = b4o k := ⟨_, rfl⟩
      rw [← hxb4o] at KK hc
      clear hxb4o
      obtain ⟨xb4n, hxb4n⟩ : ∃ d, d = b4n k := ⟨_, rfl⟩
      rw [← hxb4n] at KK hc
      clear hxb4n
      obtain ⟨xb4c, hxb4c⟩ : ∃ d, d = b4c k := ⟨_, rfl⟩
      rw [← hxb4c] at KK hc
      clear hxb4c
      obtain ⟨xb5o, hxb5o⟩ : ∃ d, d = b5o k := ⟨_, rfl⟩
      rw [← hxb5o] at KK hc
      clear hxb5o
      obtain ⟨xb5n, hxb5n⟩ : ∃ d, d = b5n k := ⟨_, rfl⟩
      rw [← hxb5n] at KK hc
      clear hxb5n
      obtain ⟨xb5c, hxb5c⟩ : ∃ d, d = b5c k := ⟨_, rfl⟩
      rw [← hxb5c] at KK hc
      clear hxb5c
      obtain ⟨⟨ak0, ak1, ak2, ak3, ak4, ak5⟩, bk0, bk1, bk2, bk3, bk4, bk5⟩ := KK
      have hb2 := World.block_lt_of_cell? wo _ bk0
      simp only at hb2
      have hb3 : ¬ bq2 = wo.heap.size := by omega
      have HC := Lib.hid hc
      clear hcell1 hcell2 hSt hc
      go_wp2_with fail
      refine (HC.out _ (by exact bel_new (bel_new (Below.refl _ _) _) _)).mono ?_
      rintro e w2 (⟨rfl, hst⟩ | ⟨rfl, hfin⟩)
      · have HX := Lib.hid hst
        clear hst
        go_wp2
        go_roundg g
        case measure => omega
        case rel => exact ⟨k + 1, by omega, by go_num, HX.out⟩
      · have HX := Lib.hid hfin
        clear hfin
        go_wp2
        go_ret
        exact .inr (.inr ⟨by first | rfl | trivial, k, hk, rfl, HX.out⟩)

set_option maxHeartbeats 8000000 in
set_option maxRecDepth 100000 in
theorem stSame_eqf (n m : Nat) (oa ob : Option Addr) (pa pb : Nat) (a0o : Nat → Option Addr) (a0n a0c : Nat → Nat) (a1 : Nat → Int) (a2o : Nat → Option Addr) (a2n a2c : Nat → Nat) (a3o : Nat → Option Addr) (a3n a3c : Nat → Nat) (a4o : Nat → Option Addr) (a4n a4c : Nat → Nat) (b0o : Nat → Option Addr) (b0n b0c : Nat → Nat) (b1 : Nat → Int) (b2o : Nat → Option Addr) (b2n b2c : Nat → Nat) (b3o : Nat → Option Addr) (b3n b3c : Nat → Nat) (b4o : Nat → Option Addr) (b4n b4c : Nat → Nat) (St : Nat → World → Prop) (Fin : Nat → World → Prop) (w : World) (hn : n ≤ 1000000) (hm : m ≤ 1000000)
    (hea : ∀ i, n = m → i < n → ∃ b off, oa = some ⟨b, off, none⟩ ∧ ∀ w', St i w' → w'.cell? ⟨b, off + i * 5, none⟩ = some (.slice (a0o i) (a0n i) (a0c i)) ∧ w'.cell? ⟨b, off + i * 5 + 1, none⟩ = some (.int .i64 (a1 i)) ∧ w'.cell? ⟨b, off + i * 5 + 2, none⟩ = some (.slice (a2o i) (a2n i) (a2c i)) ∧ w'.cell? ⟨b, off + i * 5 + 3, none⟩ = some (.slice (a3o i) (a3n i) (a3c i)) ∧ w'.cell? ⟨b, off + i * 5 + 4, none⟩ = some (.slice (a4o i) (a4n i) (a4c i)))
    (heb : ∀ i, n = m → i < n → ∃ b off, ob = some ⟨b, off, none⟩ ∧ ∀ w', St i w' → w'.cell? ⟨b, off + i * 5, none⟩ = some (.slice (b0o i) (b0n i) (b0c i)) ∧ w'.cell? ⟨b, off + i * 5 + 1, none⟩ = some (.int .i64 (b1 i)) ∧ w'.cell? ⟨b, off + i * 5 + 2, none⟩ = some (.slice (b2o i) (b2n i) (b2c i)) ∧ w'.cell? ⟨b, off + i * 5 + 3, none⟩ = some (.slice (b3o i) (b3n i) (b3c i)) ∧ w'.cell? ⟨b, off + i * 5 + 4, none⟩ = some (.slice (b4o i) (b4n i) (b4c i)))
    (hf : ∀ i w' w'', n = m → i < n → St i w' → Below w'.heap.size w' w'' → Calls Try.prog 37 #[.agg #[.slice (a0o i) (a0n i) (a0c i), .int .i64 (a1 i), .slice (a2o i) (a2n i) (a2c i), .slice (a3o i) (a3n i) (a3c i), .slice (a4o i) (a4n i) (a4c i)], .agg #[.slice (b0o i) (b0n i) (b0c i), .int .i64 (b1 i), .slice (b2o i) (b2n i) (b2c i), .slice (b3o i) (b3n i) (b3c i), .slice (b4o i) (b4n i) (b4c i)]] w'' fun e w3 => (e = .returned (.bool true) ∧ St (i + 1) w3) ∨ (e = .returned (.bool false) ∧ Fin i w3))
    (h0 : St 0 w) :
    Calls Try.prog 40 #[.slice oa n pa, .slice ob m pb, .func (Fn.func 37) #[] #[]] w fun e w' => (n ≠ m ∧ e = .returned (.bool false) ∧ w = w') ∨ (n = m ∧ e = .returned (.bool true) ∧ St n w') ∨ (n = m ∧ ∃ i : Nat, i < n ∧ e = .returned (.bool false) ∧ Fin i w') := by
  have HEA := Lib.hid hea
  have HEB := Lib.hid heb
  have HF := Lib.hid hf
  have H0 := Lib.hid h0
  clear hea heb hf h0
  by_cases hnm : n = m
  case neg =>
    have hne : ((n : Int) == (m : Int)) = false := by simp; omega
    have hne' : ¬ (n : Int) = (m : Int) := by omega
    go_enter Try.func40, Try.ntmps40
    go_wp2_with fail
    go_ret
    exact .inl ⟨hnm, rfl, rfl⟩
  subst hnm
  go_enter Try.func40, Try.ntmps40
  go_wp2_with fail
  go_loopg [17] n (fun g i wx => ∃ k : Nat, k + g = n ∧ i = .int .i64 k ∧ St k wx)
  case atStart => exact ⟨0, by omega, rfl, H0.out⟩
  case round =>
    obtain ⟨k, hkg, rfl, hSt⟩ := hrel
    obtain ⟨wo, rfl⟩ : ∃ wo : World, wo = wr := ⟨_, rfl⟩
    cases gk with
    | zero =>
      obtain rfl : k = n := by omega
      have hd : decide ((k : Int) < (k : Int)) = false := by simp
      have HS := Lib.hid hSt
      clear hSt
      go_wp2
      go_ret
      exact .inr (.inl ⟨by first | rfl | trivial, rfl, HS.out⟩)
    | succ g =>
      have hk : k < n := by omega
      have hd : decide ((k : Int) < (n : Int)) = true := by simp; omega
      have hk1 : (0 : Int) ≤ (k : Int) := by omega
      have hk2 : (k : Int) < (n : Int) := by omega
      have hk9 : (k : Int) ≤ 1000000 := by omega
      obtain ⟨bq1, fq1, rfl, hcell1⟩ := HEA.out k (by first | rfl | trivial) hk
      obtain ⟨bq2, fq2, rfl, hcell2⟩ := HEB.out k (by first | rfl | trivial) hk
      have KK := And.intro (hcell1 wo hSt) (hcell2 wo hSt)
      have hc := fun w'' => HF.out k wo w'' (by first | rfl | trivial) hk hSt
      obtain ⟨xa0o, hxa0o⟩ : ∃ d, d = a0o k := ⟨_, rfl⟩
      rw [← hxa0o] at KK hc
      clear hxa0o
      obtain ⟨xa0n, hxa0n⟩ : ∃ d, d = a0n k := ⟨_, rfl⟩
      rw [← hxa0n] at KK hc
      clear hxa0n
      obtain ⟨xa0c, hxa0c⟩ : ∃ d, d = a0c k := ⟨_, rfl⟩
      rw [← hxa0c] at KK hc
      clear hxa0c
      obtain ⟨xa1, hxa1⟩ : ∃ d, d = a1 k := ⟨_, rfl⟩
      rw [← hxa1] at KK hc
      clear hxa1
      obtain ⟨xa2o, hxa2o⟩ : ∃ d, d = a2o k := ⟨_, rfl⟩
      rw [← hxa2o] at KK hc
      clear hxa2o
      obtain ⟨xa2n, hxa2n⟩ : ∃ d, d = a2n k := ⟨_, rfl⟩
      rw [← hxa2n] at KK hc
      clear hxa2n
      obtain ⟨xa2c, hxa2c⟩ : ∃ d, d = a2c k := ⟨_, rfl⟩
      rw [← hxa2c] at KK hc
      clear hxa2c
      obtain ⟨xa3o, hxa3o⟩ : ∃ d, d = a3o k := ⟨_, rfl⟩
      rw [← hxa3o] at KK hc
      clear hxa3o
      obtain ⟨xa3n, hxa3n⟩ : ∃ d, d = a3n k := ⟨_, rfl⟩
      rw [← hxa3n] at KK hc
      clear hxa3n
      obtain ⟨xa3c, hxa3c⟩ : ∃ d, d = a3c k := ⟨_, rfl⟩
      rw [← hxa3c] at KK hc
      clear hxa3c
      obtain ⟨xa4o, hxa4o⟩ : ∃ d, d = a4o k := ⟨_, rfl⟩
      rw [← hxa4o] at KK hc
      clear hxa4o
      obtain ⟨xa4n, hxa4n⟩ : ∃ d, d = a4n k := ⟨_, rfl⟩
      rw [← hxa4n] at KK hc
      clear hxa4n
      obtain ⟨xa4c, hxa4c⟩ : ∃ d, d = a4c k := ⟨_, rfl⟩
      rw [← hxa4c] at KK hc
      clear hxa4c
      obtain ⟨xb0o, hxb0o⟩ : ∃ d, d = b0o k := ⟨_, rfl⟩
      rw [← hxb0o] at KK hc
      clear hxb0o
      obtain ⟨xb0n, hxb0n⟩ : ∃ d, d = b0n k := ⟨_, rfl⟩
      rw [← hxb0n] at KK hc
      clear hxb0n
      obtain ⟨xb0c, hxb0c⟩ : ∃ d, d = b0c k := ⟨_, rfl⟩
      rw [← hxb0c] at KK hc
      clear hxb0c
      obtain ⟨xb1, hxb1⟩ : ∃ d, d = b1 k := ⟨_, rfl⟩
      rw [← hxb1] at KK hc
      clear hxb1
      obtain ⟨xb2o, hxb2o⟩ : ∃ d, d = b2o k := ⟨_, rfl⟩
      rw [← hxb2o] at KK hc
      clear hxb2o
      obtain ⟨xb2n, hxb2n⟩ : ∃ d, d = b2n k := ⟨_, rfl⟩
      rw [← hxb2n] at KK hc
      clear hxb2n
      obtain ⟨xb2c, hxb2c⟩ : ∃ d, d = b2c k := ⟨_, rfl⟩
      rw [← hxb2c] at KK hc
      clear hxb2c
      obtain ⟨xb3o, hxb3o⟩ : ∃ d, d = b3o k := ⟨_, rfl⟩
      rw [← hxb3o] at KK hc
      clear hxb3o
      obtain ⟨xb3n, hxb3n⟩ : ∃ d, d = b3n k := ⟨_, rfl⟩
      rw [← hxb3n] at KK hc
      clear hxb3n
      obtain ⟨xb3c, hxb3c⟩ : ∃ d, d = b3c k := ⟨_, rfl⟩
      rw [← hxb3c] at KK hc
      clear hxb3c
      obtain ⟨xb4o, hxb4o⟩ : ∃ d, d = b4o k := ⟨_, rfl⟩
      rw [← hxb4o] at KK hc
      clear hxb4o
      obtain ⟨xb4n, hxb4n⟩ : ∃ d, d = b4n k := ⟨_, rfl⟩
      rw [← hxb4n] at KK hc
      clear hxb4n
      obtain ⟨xb4c, hxb4c⟩ : ∃ d, d = b4c k := ⟨_, rfl⟩
      rw [← hxb4c] at KK hc
      clear hxb4c
      obtain ⟨⟨ak0, ak1, ak2, ak3, ak4⟩, bk0, bk1, bk2, bk3, bk4⟩ := KK
      have hb2 := World.block_lt_of_cell? wo _ bk0
      simp only at hb2
      have hb3 : ¬ bq2 = wo.heap.size := by omega
      have HC := Lib.hid hc
      clear hcell1 hcell2 hSt hc
      go_wp2_with fail
      refine (HC.out _ (by exact bel_new (bel_new (Below.refl _ _) _) _)).mono ?_
      rintro e w2 (⟨rfl, hst⟩ | ⟨rfl, hfin⟩)
      · have HX := Lib.hid hst
        clear hst
        go_wp2
        go_roundg g
        case measure => omega
        case rel => exact ⟨k + 1, by omega, by go_num, HX.out⟩
      · have HX := Lib.hid hfin
        clear hfin
        go_wp2
        go_ret
        exact .inr (.inr ⟨by first | rfl | trivial, k, hk, rfl, HX.out⟩)

set_option maxHeartbeats 8000000 in
set_option maxRecDepth 100000 in
theorem ruSame_eqf (n m : Nat) (oa ob : Option Addr) (pa pb : Nat) (a0 : Nat → Int) (a1 : Nat → Bool) (a2o : Nat → Option Addr) (a2n a2c : Nat → Nat) (b0 : Nat → Int) (b1 : Nat → Bool) (b2o : Nat → Option Addr) (b2n b2c : Nat → Nat) (cap0 : Value) (St : Nat → World → Prop) (Fin : Nat → World → Prop) (w : World) (hn : n ≤ 1000000) (hm : m ≤ 1000000)
    (hea : ∀ i, n = m → i < n → ∃ b off, oa = some ⟨b, off, none⟩ ∧ ∀ w', St i w' → w'.cell? ⟨b, off + i * 3, none⟩ = some (.int .i64 (a0 i)) ∧ w'.cell? ⟨b, off + i * 3 + 1, none⟩ = some (.bool (a1 i)) ∧ w'.cell? ⟨b, off + i * 3 + 2, none⟩ = some (.slice (a2o i) (a2n i) (a2c i)))
    (heb : ∀ i, n = m → i < n → ∃ b off, ob = some ⟨b, off, none⟩ ∧ ∀ w', St i w' → w'.cell? ⟨b, off + i * 3, none⟩ = some (.int .i64 (b0 i)) ∧ w'.cell? ⟨b, off + i * 3 + 1, none⟩ = some (.bool (b1 i)) ∧ w'.cell? ⟨b, off + i * 3 + 2, none⟩ = some (.slice (b2o i) (b2n i) (b2c i)))
    (hf : ∀ i w' w'', n = m → i < n → St i w' → Below w'.heap.size w' w'' → Calls Try.prog 39 #[.agg #[.int .i64 (a0 i), .bool (a1 i), .slice (a2o i) (a2n i) (a2c i)], .agg #[.int .i64 (b0 i), .bool (b1 i), .slice (b2o i) (b2n i) (b2c i)], cap0] w'' fun e w3 => (e = .returned (.bool true) ∧ St (i + 1) w3) ∨ (e = .returned (.bool false) ∧ Fin i w3))
    (h0 : St 0 w) :
    Calls Try.prog 42 #[.slice oa n pa, .slice ob m pb, .func (Fn.func 39) #[] #[cap0]] w fun e w' => (n ≠ m ∧ e = .returned (.bool false) ∧ w = w') ∨ (n = m ∧ e = .returned (.bool true) ∧ St n w') ∨ (n = m ∧ ∃ i : Nat, i < n ∧ e = .returned (.bool false) ∧ Fin i w') := by
  have HEA := Lib.hid hea
  have HEB := Lib.hid heb
  have HF := Lib.hid hf
  have H0 := Lib.hid h0
  clear hea heb hf h0
  by_cases hnm : n = m
  case neg =>
    have hne : ((n : Int) == (m : Int)) = false := by simp; omega
    have hne' : ¬ (n : Int) = (m : Int) := by omega
    go_enter Try.func42, Try.ntmps42
    go_wp2_with fail
    go_ret
    exact .inl ⟨hnm, rfl, rfl⟩
  subst hnm
  go_enter Try.func42, Try.ntmps42
  go_wp2_with fail
  go_loopg [17] n (fun g i wx => ∃ k : Nat, k + g = n ∧ i = .int .i64 k ∧ St k wx)
  case atStart => exact ⟨0, by omega, rfl, H0.out⟩
  case round =>
    obtain ⟨k, hkg, rfl, hSt⟩ := hrel
    obtain ⟨wo, rfl⟩ : ∃ wo : World, wo = wr := ⟨_, rfl⟩
    cases gk with
    | zero =>
      obtain rfl : k = n := by omega
      have hd : decide ((k : Int) < (k : Int)) = false := by simp
      have HS := Lib.hid hSt
      clear hSt
      go_wp2
      go_ret
      exact .inr (.inl ⟨by first | rfl | trivial, rfl, HS.out⟩)
    | succ g =>
      have hk : k < n := by omega
      have hd : decide ((k : Int) < (n : Int)) = true := by simp; omega
      have hk1 : (0 : Int) ≤ (k : Int) := by omega
      have hk2 : (k : Int) < (n : Int) := by omega
      have hk9 : (k : Int) ≤ 1000000 := by omega
      obtain ⟨bq1, fq1, rfl, hcell1⟩ := HEA.out k (by first | rfl | trivial) hk
      obtain ⟨bq2, fq2, rfl, hcell2⟩ := HEB.out k (by first | rfl | trivial) hk
      have KK := And.intro (hcell1 wo hSt) (hcell2 wo hSt)
      have hc := fun w'' => HF.out k wo w'' (by first | rfl | trivial) hk hSt
      obtain ⟨xa0, hxa0⟩ : ∃ d, d = a0 k := ⟨_, rfl⟩
      rw [← hxa0] at KK hc
      clear hxa0
      obtain ⟨xa1, hxa1⟩ : ∃ d, d = a1 k := ⟨_, rfl⟩
      rw [← hxa1] at KK hc
      clear hxa1
      obtain ⟨xa2o, hxa2o⟩ : ∃ d, d = a2o k := ⟨_, rfl⟩
      rw [← hxa2o] at KK hc
      clear hxa2o
      obtain ⟨xa2n, hxa2n⟩ : ∃ d, d = a2n k := ⟨_, rfl⟩
      rw [← hxa2n] at KK hc
      clear hxa2n
      obtain ⟨xa2c, hxa2c⟩ : ∃ d, d = a2c k := ⟨_, rfl⟩
      rw [← hxa2c] at KK hc
      clear hxa2c
      obtain ⟨xb0, hxb0⟩ : ∃ d, d = b0 k := ⟨_, rfl⟩
      rw [← hxb0] at KK hc
      clear hxb0
      obtain ⟨xb1, hxb1⟩ : ∃ d, d = b1 k := ⟨_, rfl⟩
      rw [← hxb1] at KK hc
      clear hxb1
      obtain ⟨xb2o, hxb2o⟩ : ∃ d, d = b2o k := ⟨_, rfl⟩
      rw [← hxb2o] at KK hc
      clear hxb2o
      obtain ⟨xb2n, hxb2n⟩ : ∃ d, d = b2n k := ⟨_, rfl⟩
      rw [← hxb2n] at KK hc
      clear hxb2n
      obtain ⟨xb2c, hxb2c⟩ : ∃ d, d = b2c k := ⟨_, rfl⟩
      rw [← hxb2c] at KK hc
      clear hxb2c
      obtain ⟨⟨ak0, ak1, ak2⟩, bk0, bk1, bk2⟩ := KK
      have hb2 := World.block_lt_of_cell? wo _ bk0
      simp only at hb2
      have hb3 : ¬ bq2 = wo.heap.size := by omega
      have HC := Lib.hid hc
      clear hcell1 hcell2 hSt hc
      go_wp2_with fail
      refine (HC.out _ (by exact bel_new (bel_new (Below.refl _ _) _) _)).mono ?_
      rintro e w2 (⟨rfl, hst⟩ | ⟨rfl, hfin⟩)
      · have HX := Lib.hid hst
        clear hst
        go_wp2
        go_roundg g
        case measure => omega
        case rel => exact ⟨k + 1, by omega, by go_num, HX.out⟩
      · have HX := Lib.hid hfin
        clear hfin
        go_wp2
        go_ret
        exact .inr (.inr ⟨by first | rfl | trivial, k, hk, rfl, HX.out⟩)

set_option maxHeartbeats 8000000 in
set_option maxRecDepth 100000 in
theorem tkSame_any (a b : TK) (sa la sb lb : Value) (w : World) (ha : ReIs w a.re sa la) (hb : ReIs w b.re sb lb) (hfa : a.re.Fit) (hfb : b.re.Fit) :
    Calls Try.prog 35 #[.agg #[.string a.name, .int .i64 a.kind, .int .i64 a.cls, .int .i64 a.re.kind, sa, la], .agg #[.string b.name, .int .i64 b.kind, .int .i64 b.cls, .int .i64 b.re.kind, sb, lb]] w fun x w' => x = .returned (.bool (a.same b)) ∧ Below w.heap.size w w' := by
  obtain ⟨⟨o1, q1, rfl⟩, ⟨o2, q2, rfl⟩⟩ := ha.form
  obtain ⟨⟨o3, q3, rfl⟩, ⟨o4, q4, rfl⟩⟩ := hb.form
  have hcall := fun w' (hbb : Below w.heap.size w w') => reSame_any a.re b.re _ _ _ _ w' (ha.moved hbb) (hb.moved hbb) hfa hfb
  obtain ⟨R, hR⟩ : ∃ R, R = a.same b := ⟨_, rfl⟩
  rw [← hR]
  have hE : R = (decide (a.name = b.name) && (decide (a.kind = b.kind) && (decide (a.cls = b.cls) && a.re.same b.re))) := hR
  obtain ⟨r, hr⟩ : ∃ r, r = a.re.same b.re := ⟨_, rfl⟩
  rw [← hr] at hcall hE
  have HC := Lib.hid hcall
  have hB1 : ∀ (x y : Obj), Below w.heap.size w ((w.alloc x).alloc y) := fun x y => bel_new (bel_new (Below.refl _ _) _) _
  obtain ⟨an, ak, ac, ar⟩ := a
  obtain ⟨bn, bk, bc, br⟩ := b
  simp only at hE HC ⊢
  have HE := Lib.hid hE
  clear hE hR hcall ha hb hfa hfb hr
  by_cases h1 : an = bn
  case neg =>
    have d1 : (an.toList == bn.toList) = false := bytes_ne h1
    have HX := Lib.hid (show R = false by rw [HE.out]; rw [decide_eq_false h1]; rfl)
    go_enter Try.func35, Try.ntmps35
    go_wp2_with fail
    go_ret
    exact ⟨by rw [HX.out]; rfl, hB1 _ _⟩
  have d1 : (an.toList == bn.toList) = true := by rw [h1]; simp
  by_cases h2 : ak = bk
  case neg =>
    have d2 : (ak == bk) = false := by simpa using h2
    have HX := Lib.hid (show R = false by rw [HE.out]; rw [decide_eq_false h2]; simp)
    clear h1
    go_enter Try.func35, Try.ntmps35
    go_wp2_with fail
    go_ret
    exact ⟨by rw [HX.out]; rfl, hB1 _ _⟩
  have d2 : (ak == bk) = true := by simpa using h2
  by_cases h3 : ac = bc
  case neg =>
    have d3 : (ac == bc) = false := by simpa using h3
    have HX := Lib.hid (show R = false by rw [HE.out]; rw [decide_eq_false h3]; simp)
    clear h1 h2
    go_enter Try.func35, Try.ntmps35
    go_wp2_with fail
    go_ret
    exact ⟨by rw [HX.out]; rfl, hB1 _ _⟩
  have d3 : (ac == bc) = true := by simpa using h3
  have HX := Lib.hid (show R = r by rw [HE.out, decide_eq_true h1, decide_eq_true h2, decide_eq_true h3]; simp)
  clear h1 h2 h3
  go_enter Try.func35, Try.ntmps35
  go_wp2_with fail
  refine (HC.out _ (by exact hB1 _ _)).mono ?_
  rintro e w2 ⟨rfl, hb2⟩
  have HB := Lib.hid (bel_then (hB1 _ _) hb2)
  clear hb2
  go_wp2_with fail
  go_ret
  exact ⟨by rw [HX.out]; rfl, HB.out⟩

set_option maxHeartbeats 8000000 in
set_option maxRecDepth 100000 in
theorem stSame_any (a b : ST) (ca na ea la cb nb eb lb : Value) (w : World) (hca : Row w ca a.calls.length (strs a.calls)) (hcb : Row w cb b.calls.length (strs b.calls)) (ha : PtIs w a.p na ea la) (hb : PtIs w b.p nb eb lb) (hfa : a.calls.length ≤ 1000 ∧ a.p.Fit) (hfb : b.calls.length ≤ 1000 ∧ b.p.Fit) :
    Calls Try.prog 37 #[.agg #[ca, .int .i64 a.p.kind, na, ea, la], .agg #[cb, .int .i64 b.p.kind, nb, eb, lb]] w fun x w' => x = .returned (.bool (a.same b)) ∧ Below w.heap.size w w' := by
  have hca' := hca
  have hcb' := hcb
  obtain ⟨o9, q9, rfl, -⟩ := hca'
  obtain ⟨o8, q8, rfl, -⟩ := hcb'
  obtain ⟨⟨o1, q1, rfl⟩, ⟨o2, q2, rfl⟩, ⟨o3, q3, rfl⟩⟩ := ha.form
  obtain ⟨⟨o4, q4, rfl⟩, ⟨o5, q5, rfl⟩, ⟨o6, q6, rfl⟩⟩ := hb.form
  have hc1 := fun w' (hbb : Below w.heap.size w w') => equalS_any a.calls b.calls _ _ w' (hca.below hbb) (hcb.below hbb) (by omega) (by omega)
  have hc2 := fun w' (hbb : Below w.heap.size w w') => samePat_any a.p b.p _ _ _ _ _ _ w' (ha.moved hbb) (hb.moved hbb) hfa.2 hfb.2
  obtain ⟨R, hR⟩ : ∃ R, R = a.same b := ⟨_, rfl⟩
  rw [← hR]
  have hE : R = (decide (a.calls = b.calls) && a.p.same b.p) := hR
  obtain ⟨r1, hr1⟩ : ∃ r, r = decide (a.calls = b.calls) := ⟨_, rfl⟩
  obtain ⟨r2, hr2⟩ : ∃ r, r = a.p.same b.p := ⟨_, rfl⟩
  rw [← hr1] at hc1
  rw [← hr2] at hc2
  rw [← hr1, ← hr2] at hE
  have HC1 := Lib.hid hc1
  have HC2 := Lib.hid hc2
  have HE := Lib.hid hE
  have hB1 : ∀ (x y : Obj), Below w.heap.size w ((w.alloc x).alloc y) := fun x y => bel_new (bel_new (Below.refl _ _) _) _
  clear hE hR hc1 hc2 ha hb hfa hfb hr1 hr2 hca hcb
  go_enter Try.func37, Try.ntmps37
  go_wp2_with fail
  refine (HC1.out _ (by exact hB1 _ _)).mono ?_
  rintro e w2 ⟨rfl, hb2⟩
  have g1 := cell_later (a := ⟨w.heap.size, 1, none⟩) hb2 (by simp [go_sem]; rfl)
  have g2 := cell_later (a := ⟨w.heap.size, 2, none⟩) hb2 (by simp [go_sem]; rfl)
  have g3 := cell_later (a := ⟨w.heap.size, 3, none⟩) hb2 (by simp [go_sem]; rfl)
  have g4 := cell_later (a := ⟨w.heap.size, 4, none⟩) hb2 (by simp [go_sem]; rfl)
  have g5 := cell_later (a := ⟨w.heap.size + 1, 1, none⟩) hb2 (by simp [go_sem]; rfl)
  have g6 := cell_later (a := ⟨w.heap.size + 1, 2, none⟩) hb2 (by simp [go_sem]; rfl)
  have g7 := cell_later (a := ⟨w.heap.size + 1, 3, none⟩) hb2 (by simp [go_sem]; rfl)
  have g8 := cell_later (a := ⟨w.heap.size + 1, 4, none⟩) hb2 (by simp [go_sem]; rfl)
  have HB := Lib.hid (bel_then (hB1 _ _) hb2)
  clear hb2
  cases r1 with
  | false =>
    have HX := Lib.hid (show R = false by rw [HE.out]; rfl)
    go_wp2_with fail
    go_ret
    exact ⟨by rw [HX.out]; rfl, HB.out⟩
  | true =>
    have HX := Lib.hid (show R = r2 by rw [HE.out]; rfl)
    go_wp2_with fail
    refine (HC2.out _ HB.out).mono ?_
    rintro e w3 ⟨rfl, hb3⟩
    have HB3 := Lib.hid (bel_then HB.out hb3)
    clear hb3
    go_wp2_with fail
    go_ret
    exact ⟨by rw [HX.out]; rfl, HB3.out⟩
/-- the steps' cells -/
theorem StsAre.all {w : World} {v : Value} {l : List ST} (h : StsAre w v l) : ∃ (o : Option Addr) (cap : Nat) (co : Nat → Option Addr) (cn cc : Nat → Nat) (kf : Nat → Int) (no : Nat → Option Addr) (nn nc : Nat → Nat) (eo : Nat → Option Addr) (en ec : Nat → Nat) (lo : Nat → Option Addr) (ln lc : Nat → Nat), v = .slice o l.length cap ∧
    ∀ (i : Nat) (s : ST), l[i]? = some s → Row w (.slice (co i) (cn i) (cc i)) s.calls.length (strs s.calls) ∧ kf i = s.p.kind ∧ PtIs w s.p (.slice (no i) (nn i) (nc i)) (.slice (eo i) (en i) (ec i)) (.slice (lo i) (ln i) (lc i)) ∧ ∃ b off, o = some ⟨b, off, none⟩ ∧ b < w.heap.size ∧
      w.cell? ⟨b, off + i * 5, none⟩ = some (.slice (co i) (cn i) (cc i)) ∧ w.cell? ⟨b, off + i * 5 + 1, none⟩ = some (.int .i64 (kf i)) ∧ w.cell? ⟨b, off + i * 5 + 2, none⟩ = some (.slice (no i) (nn i) (nc i)) ∧ w.cell? ⟨b, off + i * 5 + 3, none⟩ = some (.slice (eo i) (en i) (ec i)) ∧ w.cell? ⟨b, off + i * 5 + 4, none⟩ = some (.slice (lo i) (ln i) (lc i)) := by
  have h0 := h
  obtain ⟨ps, rfl, hrow, hall⟩ := h
  have hrow2 := hrow
  obtain ⟨o, cap, rfl, _⟩ := hrow2
  let g : Nat → ST × Value × Value × Value × Value := fun i => ps.getD i (⟨[], .mk 0 [] [] []⟩, .nilIface, .nilIface, .nilIface, .nilIface)
  refine ⟨o, cap, fun i => slO (g i).2.1, fun i => slN (g i).2.1, fun i => slC (g i).2.1, fun i => (g i).1.p.kind, fun i => slO (g i).2.2.1, fun i => slN (g i).2.2.1, fun i => slC (g i).2.2.1, fun i => slO (g i).2.2.2.1, fun i => slN (g i).2.2.2.1, fun i => slC (g i).2.2.2.1, fun i => slO (g i).2.2.2.2, fun i => slN (g i).2.2.2.2, fun i => slC (g i).2.2.2.2, rfl, fun i s hs => ?_⟩
  rw [List.getElem?_map] at hs
  obtain ⟨p, hp, rfl⟩ := Option.map_eq_some_iff.1 hs
  have hg : g i = p := by show ps.getD i _ = p; rw [List.getD, hp]; rfl
  simp only [hg]
  have hi : i < ps.length := (List.getElem?_eq_some_iff.1 hp).1
  obtain ⟨b, off, cap', e, hb, hc⟩ := hrow.cells' (by simp; omega)
  simp only [Value.slice.injEq, true_and] at e
  obtain ⟨rfl, rfl⟩ := e
  obtain ⟨h1, h2⟩ := hall i p hp
  have h1' := h1
  obtain ⟨co, cc, e1, _⟩ := h1'
  obtain ⟨⟨x1, y1, e2⟩, ⟨x2, y2, e3⟩, ⟨x3, y3, e4⟩⟩ := h2.form
  have hget : ∀ j u, (five p)[j]? = some u → j < 5 → w.cell? ⟨b, off + (i * 5 + j), none⟩ = some u := fun j u hu hj => hc _ _ (by rw [fm_get five 5 (fun _ => rfl) ps i j p hp hj]; exact hu)
  have g0 := hget 0 _ rfl (by omega)
  have g1 := hget 1 _ rfl (by omega)
  have g2 := hget 2 _ rfl (by omega)
  have g3 := hget 3 _ rfl (by omega)
  have g4 := hget 4 _ rfl (by omega)
  rw [e1] at g0 h1 ⊢
  rw [e2] at g2 h2 ⊢
  rw [e3] at g3 h2 ⊢
  rw [e4] at g4 h2 ⊢
  exact ⟨h1, trivial, h2, b, off, rfl, hb, g0, by rw [Nat.add_assoc]; exact g1, by rw [Nat.add_assoc]; exact g2, by rw [Nat.add_assoc]; exact g3, by rw [Nat.add_assoc]; exact g4⟩
/-- the rules' cells -/
theorem RusAre.all {w : World} {v : Value} {l : List RU} (h : RusAre w v l) : ∃ (o : Option Addr) (cap : Nat) (cl : Nat → Int) (fr : Nat → Bool) (so : Nat → Option Addr) (sn sc : Nat → Nat), v = .slice o l.length cap ∧
    ∀ (i : Nat) (s : RU), l[i]? = some s → cl i = s.cls ∧ fr i = s.free ∧ StsAre w (.slice (so i) (sn i) (sc i)) s.steps ∧ ∃ b off, o = some ⟨b, off, none⟩ ∧ b < w.heap.size ∧
      w.cell? ⟨b, off + i * 3, none⟩ = some (.int .i64 (cl i)) ∧ w.cell? ⟨b, off + i * 3 + 1, none⟩ = some (.bool (fr i)) ∧ w.cell? ⟨b, off + i * 3 + 2, none⟩ = some (.slice (so i) (sn i) (sc i)) := by
  obtain ⟨ps, rfl, hrow, hall⟩ := h
  have hrow2 := hrow
  obtain ⟨o, cap, rfl, _⟩ := hrow2
  let g : Nat → RU × Value := fun i => ps.getD i (⟨0, false, []⟩, .nilIface)
  refine ⟨o, cap, fun i => (g i).1.cls, fun i => (g i).1.free, fun i => slO (g i).2, fun i => slN (g i).2, fun i => slC (g i).2, rfl, fun i s hs => ?_⟩
  rw [List.getElem?_map] at hs
  obtain ⟨p, hp, rfl⟩ := Option.map_eq_some_iff.1 hs
  have hg : g i = p := by show ps.getD i _ = p; rw [List.getD, hp]; rfl
  simp only [hg]
  have hi : i < ps.length := (List.getElem?_eq_some_iff.1 hp).1
  obtain ⟨b, off, cap', e, hb, hc⟩ := hrow.cells' (by simp; omega)
  simp only [Value.slice.injEq, true_and] at e
  obtain ⟨rfl, rfl⟩ := e
  have h1 := hall i p hp
  obtain ⟨so, sc, e1⟩ := h1.form
  have hget : ∀ j u, (three p)[j]? = some u → j < 3 → w.cell? ⟨b, off + (i * 3 + j), none⟩ = some u := fun j u hu hj => hc _ _ (by rw [fm_get three 3 (fun _ => rfl) ps i j p hp hj]; exact hu)
  have g0 := hget 0 _ rfl (by omega)
  have g1 := hget 1 _ rfl (by omega)
  have g2 := hget 2 _ rfl (by omega)
  rw [e1] at g2 h1 ⊢
  exact ⟨trivial, trivial, h1, b, off, rfl, hb, g0, by rw [Nat.add_assoc]; exact g1, by rw [Nat.add_assoc]; exact g2⟩
/-- the three answers of EqualFunc as one -/
theorem eqf_done {α : Type} {f : α → α → Bool} {l m : List α} {w : World} {e : Ending} {w' : World}
    (h : (l.length ≠ m.length ∧ e = .returned (.bool false) ∧ w = w') ∨ (l.length = m.length ∧ e = .returned (.bool true) ∧ (Below w.heap.size w w' ∧ ∀ j x y, j < l.length → l[j]? = some x → m[j]? = some y → f x y = true)) ∨
      (l.length = m.length ∧ ∃ i : Nat, i < l.length ∧ e = .returned (.bool false) ∧ (Below w.heap.size w w' ∧ ∃ x y, l[i]? = some x ∧ m[i]? = some y ∧ f x y = false))) : e = .returned (.bool (allS f l m)) ∧ Below w.heap.size w w' := by
  rcases h with ⟨h1, rfl, rfl⟩ | ⟨h1, rfl, hb, h2⟩ | ⟨h1, i, hi, rfl, hb, x, y, hx, hy, h2⟩
  · rw [allS_len h1]; exact ⟨rfl, Below.refl _ _⟩
  · rw [allS_true h1 (fun i x y hx hy => h2 i x y (List.getElem?_eq_some_iff.1 hx).1 hx hy)]; exact ⟨rfl, hb⟩
  · rw [allS_at hx hy h2]; exact ⟨rfl, hb⟩
theorem tksq_any (l m : List TK) (va vb : Value) (w : World) (hl : TksAre w va l) (hm : TksAre w vb m) (hll : l.length ≤ 1000) (hml : m.length ≤ 1000) (hfl : TFit l) (hfm : TFit m) :
    Calls Try.prog 41 #[va, vb, .func (Fn.func 35) #[] #[]] w fun e w' => e = .returned (.bool (allS TK.same l m)) ∧ Below w.heap.size w w' := by
  obtain ⟨oa, pa, anm, akd, acl, ark, aso, asn, asc, alo, aln, alc, rfl, halla⟩ := hl.all
  obtain ⟨ob, pb, bnm, bkd, bcl, brk, bso, bsn, bsc, blo, bln, blc, rfl, hallb⟩ := hm.all
  refine (Calls.mono (tkSame_eqf l.length m.length oa ob pa pb anm akd acl ark aso asn asc alo aln alc bnm bkd bcl brk bso bsn bsc blo bln blc 
      (fun i w'' => Below w.heap.size w w'' ∧ ∀ j x y, j < i → l[j]? = some x → m[j]? = some y → x.same y = true)
      (fun i w'' => Below w.heap.size w w'' ∧ ∃ x y, l[i]? = some x ∧ m[i]? = some y ∧ x.same y = false) w (by omega) (by omega)
      (fun i hnm hi => by
        obtain ⟨e1, e2, e3, e4, hre, b1, off, h3, h4, k0, k1, k2, k3, k4, k5⟩ := halla i _ (List.getElem?_eq_getElem hi)
        refine ⟨b1, off, h3, fun w'' hSt => ?_⟩
        have hbb := hSt.1
        exact ⟨(hbb.cell h4).trans k0, (hbb.cell h4).trans k1, (hbb.cell h4).trans k2, (hbb.cell h4).trans k3, (hbb.cell h4).trans k4, (hbb.cell h4).trans k5⟩)
      (fun i hnm hi => by
        obtain ⟨e1, e2, e3, e4, hre, b1, off, h3, h4, k0, k1, k2, k3, k4, k5⟩ := hallb i _ (List.getElem?_eq_getElem (by omega))
        refine ⟨b1, off, h3, fun w'' hSt => ?_⟩
        have hbb := hSt.1
        exact ⟨(hbb.cell h4).trans k0, (hbb.cell h4).trans k1, (hbb.cell h4).trans k2, (hbb.cell h4).trans k3, (hbb.cell h4).trans k4, (hbb.cell h4).trans k5⟩)
      (fun i w1 w2 hnm hi hSt hb12 => by
        have hx := List.getElem?_eq_getElem (l := l) hi
        have hy := List.getElem?_eq_getElem (l := m) (i := i) (by omega)
        obtain ⟨a1, a2, a3, a4, ha, -⟩ := halla i _ hx
        obtain ⟨b1, b2, b3, b4, hb, -⟩ := hallb i _ hy
        rw [a1, a2, a3, a4, b1, b2, b3, b4]
        refine (tkSame_any l[i] m[i] _ _ _ _ w2 (ha.moved (bel_then hSt.1 hb12)) (hb.moved (bel_then hSt.1 hb12)) (hfl i _ hx).2 (hfm i _ hy).2).mono ?_
        rintro x w3 ⟨rfl, hb3⟩
        cases hs : (l[i]).same (m[i]) with
        | true =>
          refine .inl ⟨rfl, bel_then (bel_then hSt.1 hb12) hb3, fun j x y hj hx' hy' => ?_⟩
          rcases Nat.lt_or_ge j i with h | h
          · exact hSt.2 j x y h hx' hy'
          · obtain rfl : j = i := by omega
            rw [hx] at hx'; rw [hy] at hy'; cases hx'; cases hy'; exact hs
        | false => exact .inr ⟨rfl, bel_then (bel_then hSt.1 hb12) hb3, _, _, hx, hy, hs⟩)
      ⟨Below.refl _ _, fun j x y hj => by omega⟩) fun e w' h => eqf_done h)
theorem stsq_any (l m : List ST) (va vb : Value) (w : World) (hl : StsAre w va l) (hm : StsAre w vb m) (hll : l.length ≤ 1000) (hml : m.length ≤ 1000) (hfl : SFit l) (hfm : SFit m) :
    Calls Try.prog 40 #[va, vb, .func (Fn.func 37) #[] #[]] w fun e w' => e = .returned (.bool (allS ST.same l m)) ∧ Below w.heap.size w w' := by
  obtain ⟨oa, pa, aco, acn, acc, akf, ano, ann, anc, aeo, aen, aec, alo, aln, alc, rfl, halla⟩ := hl.all
  obtain ⟨ob, pb, bco, bcn, bcc, bkf, bno, bnn, bnc, beo, ben, bec, blo, bln, blc, rfl, hallb⟩ := hm.all
  refine (Calls.mono (stSame_eqf l.length m.length oa ob pa pb aco acn acc akf ano ann anc aeo aen aec alo aln alc bco bcn bcc bkf bno bnn bnc beo ben bec blo bln blc 
      (fun i w'' => Below w.heap.size w w'' ∧ ∀ j x y, j < i → l[j]? = some x → m[j]? = some y → x.same y = true)
      (fun i w'' => Below w.heap.size w w'' ∧ ∃ x y, l[i]? = some x ∧ m[i]? = some y ∧ x.same y = false) w (by omega) (by omega)
      (fun i hnm hi => by
        obtain ⟨e1, e2, e3, b1, off, h3, h4, k0, k1, k2, k3, k4⟩ := halla i _ (List.getElem?_eq_getElem hi)
        refine ⟨b1, off, h3, fun w'' hSt => ?_⟩
        have hbb := hSt.1
        exact ⟨(hbb.cell h4).trans k0, (hbb.cell h4).trans k1, (hbb.cell h4).trans k2, (hbb.cell h4).trans k3, (hbb.cell h4).trans k4⟩)
      (fun i hnm hi => by
        obtain ⟨e1, e2, e3, b1, off, h3, h4, k0, k1, k2, k3, k4⟩ := hallb i _ (List.getElem?_eq_getElem (by omega))
        refine ⟨b1, off, h3, fun w'' hSt => ?_⟩
        have hbb := hSt.1
        exact ⟨(hbb.cell h4).trans k0, (hbb.cell h4).trans k1, (hbb.cell h4).trans k2, (hbb.cell h4).trans k3, (hbb.cell h4).trans k4⟩)
      (fun i w1 w2 hnm hi hSt hb12 => by
        have hx := List.getElem?_eq_getElem (l := l) hi
        have hy := List.getElem?_eq_getElem (l := m) (i := i) (by omega)
        obtain ⟨ha1, a1, ha2, -⟩ := halla i _ hx
        obtain ⟨hb1, b1, hb2, -⟩ := hallb i _ hy
        rw [a1, b1]
        refine (stSame_any l[i] m[i] _ _ _ _ _ _ _ _ w2 (ha1.below (bel_then hSt.1 hb12)) (hb1.below (bel_then hSt.1 hb12)) (ha2.moved (bel_then hSt.1 hb12)) (hb2.moved (bel_then hSt.1 hb12)) (hfl i _ hx) (hfm i _ hy)).mono ?_
        rintro x w3 ⟨rfl, hb3⟩
        cases hs : (l[i]).same (m[i]) with
        | true =>
          refine .inl ⟨rfl, bel_then (bel_then hSt.1 hb12) hb3, fun j x y hj hx' hy' => ?_⟩
          rcases Nat.lt_or_ge j i with h | h
          · exact hSt.2 j x y h hx' hy'
          · obtain rfl : j = i := by omega
            rw [hx] at hx'; rw [hy] at hy'; cases hx'; cases hy'; exact hs
        | false => exact .inr ⟨rfl, bel_then (bel_then hSt.1 hb12) hb3, _, _, hx, hy, hs⟩)
      ⟨Below.refl _ _, fun j x y hj => by omega⟩) fun e w' h => eqf_done h)

set_option maxHeartbeats 8000000 in
set_option maxRecDepth 100000 in
theorem ruSame_any (a b : RU) (sa sb : Value) (q : Nat) (w : World) (hq : w.heap[q]? = some (.cells #[.func (Fn.func 37) #[] #[]] 73 (0, 0))) (ha : StsAre w sa a.steps) (hb : StsAre w sb b.steps) (hfa : a.steps.length ≤ 1000 ∧ SFit a.steps) (hfb : b.steps.length ≤ 1000 ∧ SFit b.steps) :
    Calls Try.prog 39 #[.agg #[.int .i64 a.cls, .bool a.free, sa], .agg #[.int .i64 b.cls, .bool b.free, sb], .pointer (some ⟨q, 0, none⟩)] w fun x w' => x = .returned (.bool (a.same b)) ∧ Below w.heap.size w w' := by
  obtain ⟨o1, q1, rfl⟩ := ha.form
  obtain ⟨o2, q2, rfl⟩ := hb.form
  have hc := fun w' (hbb : Below w.heap.size w w') => stsq_any a.steps b.steps _ _ w' (ha.moved hbb) (hb.moved hbb) hfa.1 hfb.1 hfa.2 hfb.2
  obtain ⟨R, hR⟩ : ∃ R, R = a.same b := ⟨_, rfl⟩
  rw [← hR]
  have hE : R = (decide (a.cls = b.cls) && ((a.free == b.free) && allS ST.same a.steps b.steps)) := hR
  obtain ⟨r1, hr1⟩ : ∃ r, r = allS ST.same a.steps b.steps := ⟨_, rfl⟩
  rw [← hr1] at hc hE
  obtain ⟨n1, hn1⟩ : ∃ n, n = a.steps.length := ⟨_, rfl⟩
  obtain ⟨n2, hn2⟩ : ∃ n, n = b.steps.length := ⟨_, rfl⟩
  rw [← hn1, ← hn2] at hc ⊢
  obtain ⟨ac, af, al⟩ := a
  obtain ⟨bc, bf, bl⟩ := b
  simp only at hE ⊢
  have HC := Lib.hid hc
  have HE := Lib.hid hE
  obtain ⟨cq, zq⟩ := cell1_of hq
  have hlt := hp_lt hq
  have hqn : ¬ q = w.heap.size := by omega
  have hqm : ¬ q = w.heap.size + 1 := by omega
  have hlt2 : q < w.heap.size + 1 := by omega
  have hB1 : ∀ (x y : Obj), Below w.heap.size w ((w.alloc x).alloc y) := fun x y => bel_new (bel_new (Below.refl _ _) _) _
  clear hE hR hc ha hb hfa hfb hr1 hn1 hn2 hq
  by_cases h1 : ac = bc
  case neg =>
    have d1 : (ac == bc) = false := by simpa using h1
    have HX := Lib.hid (show R = false by rw [HE.out, decide_eq_false h1]; rfl)
    clear h1
    go_enter Try.func39, Try.ntmps39
    go_wp2_with fail
    go_ret
    exact ⟨by rw [HX.out]; rfl, hB1 _ _⟩
  have d1 : (ac == bc) = true := by simpa using h1
  by_cases h2 : af = bf
  case neg =>
    have d2 : (af == bf) = false := by simpa using h2
    have HX := Lib.hid (show R = false by rw [HE.out, decide_eq_true h1, d2]; rfl)
    clear h1 h2
    go_enter Try.func39, Try.ntmps39
    go_wp2_with fail
    go_ret
    exact ⟨by rw [HX.out]; rfl, hB1 _ _⟩
  have d2 : (af == bf) = true := by simpa using h2
  have HX := Lib.hid (show R = r1 by rw [HE.out, decide_eq_true h1, d2]; rfl)
  clear h1 h2
  go_enter Try.func39, Try.ntmps39
  go_wp2_with fail
  refine (HC.out _ (by exact hB1 _ _)).mono ?_
  rintro e w2 ⟨rfl, hb2⟩
  have HB := Lib.hid (bel_then (hB1 _ _) hb2)
  clear hb2
  go_wp2_with fail
  go_ret
  exact ⟨by rw [HX.out]; rfl, HB.out⟩
theorem rusq_any (l m : List RU) (va vb : Value) (q : Nat) (w : World) (hq : w.heap[q]? = some (.cells #[.func (Fn.func 37) #[] #[]] 73 (0, 0))) (hl : RusAre w va l) (hm : RusAre w vb m) (hll : l.length ≤ 1000) (hml : m.length ≤ 1000) (hfl : RFit l) (hfm : RFit m) :
    Calls Try.prog 42 #[va, vb, .func (Fn.func 39) #[] #[.pointer (some ⟨q, 0, none⟩)]] w fun e w' => e = .returned (.bool (allS RU.same l m)) ∧ Below w.heap.size w w' := by
  obtain ⟨oa, pa, acl, afr, aso, asn, asc, rfl, halla⟩ := hl.all
  obtain ⟨ob, pb, bcl, bfr, bso, bsn, bsc, rfl, hallb⟩ := hm.all
  refine (Calls.mono (ruSame_eqf l.length m.length oa ob pa pb acl afr aso asn asc bcl bfr bso bsn bsc (.pointer (some ⟨q, 0, none⟩))
      (fun i w'' => Below w.heap.size w w'' ∧ ∀ j x y, j < i → l[j]? = some x → m[j]? = some y → x.same y = true)
      (fun i w'' => Below w.heap.size w w'' ∧ ∃ x y, l[i]? = some x ∧ m[i]? = some y ∧ x.same y = false) w (by omega) (by omega)
      (fun i hnm hi => by
        obtain ⟨e1, e2, e3, b1, off, h3, h4, k0, k1, k2⟩ := halla i _ (List.getElem?_eq_getElem hi)
        refine ⟨b1, off, h3, fun w'' hSt => ?_⟩
        have hbb := hSt.1
        exact ⟨(hbb.cell h4).trans k0, (hbb.cell h4).trans k1, (hbb.cell h4).trans k2⟩)
      (fun i hnm hi => by
        obtain ⟨e1, e2, e3, b1, off, h3, h4, k0, k1, k2⟩ := hallb i _ (List.getElem?_eq_getElem (by omega))
        refine ⟨b1, off, h3, fun w'' hSt => ?_⟩
        have hbb := hSt.1
        exact ⟨(hbb.cell h4).trans k0, (hbb.cell h4).trans k1, (hbb.cell h4).trans k2⟩)
      (fun i w1 w2 hnm hi hSt hb12 => by
        have hx := List.getElem?_eq_getElem (l := l) hi
        have hy := List.getElem?_eq_getElem (l := m) (i := i) (by omega)
        obtain ⟨a1, a2, ha, -⟩ := halla i _ hx
        obtain ⟨b1, b2, hb, -⟩ := hallb i _ hy
        rw [a1, a2, b1, b2]
        refine (ruSame_any l[i] m[i] _ _ q w2 (bel_get (bel_then hSt.1 hb12) hq) (ha.moved (bel_then hSt.1 hb12)) (hb.moved (bel_then hSt.1 hb12)) (hfl i _ hx) (hfm i _ hy)).mono ?_
        rintro x w3 ⟨rfl, hb3⟩
        cases hs : (l[i]).same (m[i]) with
        | true =>
          refine .inl ⟨rfl, bel_then (bel_then hSt.1 hb12) hb3, fun j x y hj hx' hy' => ?_⟩
          rcases Nat.lt_or_ge j i with h | h
          · exact hSt.2 j x y h hx' hy'
          · obtain rfl : j = i := by omega
            rw [hx] at hx'; rw [hy] at hy'; cases hx'; cases hy'; exact hs
        | false => exact .inr ⟨rfl, bel_then (bel_then hSt.1 hb12) hb3, _, _, hx, hy, hs⟩)
      ⟨Below.refl _ _, fun j x y hj => by omega⟩) fun e w' h => eqf_done h)

set_option maxHeartbeats 8000000 in
set_option maxRecDepth 100000 in
/-- gram.Same -/
theorem gramSame_any (T U : List TK) (R S : List RU) (tv rv uv sv : Value) (w : World) (hT : TksAre w tv T) (hU : TksAre w uv U) (hR : RusAre w rv R) (hS : RusAre w sv S) (hTl : T.length ≤ 1000) (hUl : U.length ≤ 1000) (hRl : R.length ≤ 1000) (hSl : S.length ≤ 1000) (hTf : TFit T) (hUf : TFit U) (hRf : RFit R) (hSf : RFit S) :
    Calls Try.prog 12 #[.agg #[tv, rv], .agg #[uv, sv]] w fun e w' => e = .returned (.bool (allS TK.same T U && allS RU.same R S)) ∧ Below w.heap.size w w' := by
  have hmf : ∀ (fn : Fn) (first cap : Array Value) (w : World), (Instr.makeFunc fn first cap).run Try.prog w = .ok (.func fn first cap) w := fun _ _ _ _ => rfl
  obtain ⟨r1, hr1⟩ : ∃ r, r = allS TK.same T U := ⟨_, rfl⟩
  obtain ⟨r2, hr2⟩ : ∃ r, r = allS RU.same R S := ⟨_, rfl⟩
  have hc1 := fun w' (hbb : Below w.heap.size w w') => tksq_any T U tv uv w' (hT.moved hbb) (hU.moved hbb) hTl hUl hTf hUf
  have hc2 := fun q w' hq (hbb : Below w.heap.size w w') => rusq_any R S rv sv q w' hq (hR.moved hbb) (hS.moved hbb) hRl hSl hRf hSf
  obtain ⟨o7, c7, nm7, kd7, cl7, rk7, so7, sn7, sc7, lo7, ln7, lc7, rfl, -⟩ := hT.all
  obtain ⟨o8, c8, nm8, kd8, cl8, rk8, so8, sn8, sc8, lo8, ln8, lc8, rfl, -⟩ := hU.all
  obtain ⟨o5, c5, rfl⟩ := hR.form
  obtain ⟨o6, c6, rfl⟩ := hS.form
  rw [← hr1] at hc1
  rw [← hr2] at hc2
  rw [← hr1, ← hr2]
  have HC1 := Lib.hid hc1
  have HC2 := Lib.hid hc2
  clear hc1 hc2 hr1 hr2 hT hU hR hS hTf hUf hRf hSf
  go_enter Try.func12, Try.ntmps12
  go_wp2_with fail
  obtain ⟨W, hW⟩ : ∃ W, W = ((w.alloc (.cells #[.slice o7 T.length c7, .slice o5 R.length c5] 25)).alloc (.cells #[.slice o8 U.length c8, .slice o6 S.length c6] 25)).alloc (.cells #[.func (Fn.func 37) #[] #[]] 73) := ⟨_, rfl⟩
  rw [← hW]
  obtain ⟨w1, h1⟩ : ∃ w1, w1 = w.alloc (.cells #[.slice o7 T.length c7, .slice o5 R.length c5] 25) := ⟨_, rfl⟩
  rw [← h1] at hW
  obtain ⟨w2, h2⟩ : ∃ w2, w2 = w1.alloc (.cells #[.slice o8 U.length c8, .slice o6 S.length c6] 25) := ⟨_, rfl⟩
  rw [← h2] at hW
  have s1 : w1.heap.size = w.heap.size + 1 := by rw [h1]; simp
  have s2 : w2.heap.size = w.heap.size + 1 + 1 := by rw [h2]; simp [s1]
  have b1 : Below w.heap.size w w1 := by rw [h1]; exact bel_new (Below.refl _ _) _
  have b2 : Below w1.heap.size w1 w2 := by rw [h2]; exact bel_new (Below.refl _ _) _
  have b3 : Below w2.heap.size w2 W := by rw [hW]; exact bel_new (Below.refl _ _) _
  have g1 := heap_alloc_new w (.cells #[.slice o7 T.length c7, .slice o5 R.length c5] 25)
  have g2 := heap_alloc_new w1 (.cells #[.slice o8 U.length c8, .slice o6 S.length c6] 25)
  have g3 := heap_alloc_new w2 (.cells #[.func (Fn.func 37) #[] #[]] 73)
  rw [← h1] at g1
  rw [← h2, s1] at g2
  rw [← hW, s2] at g3
  have BW := Lib.hid (bel_then (bel_then b1 b2) b3)
  have G := Lib.hid (And.intro (bel_get b3 (bel_get b2 g1)) (And.intro (bel_get b3 g2) g3))
  clear hW h1 h2 s1 s2 b1 b2 b3 g1 g2 g3 w1 w2
  refine (HC1.out W BW.out).mono ?_
  rintro e w3 ⟨rfl, hb3⟩
  have G1 := bel_get hb3 G.out.1
  have G2 := bel_get hb3 G.out.2.1
  have G3 := bel_get hb3 G.out.2.2
  have c1 : w3.cell? ⟨w.heap.size, 1, none⟩ = some (.slice o5 R.length c5) := by simp [World.cell?, G1]
  have c2 : w3.cell? ⟨w.heap.size + 1, 1, none⟩ = some (.slice o6 S.length c6) := by simp [World.cell?, G2]
  have GG := Lib.hid G3
  have HB := Lib.hid (bel_then BW.out hb3)
  clear G1 G2 G3 hb3
  cases r1 with
  | false =>
    go_wp2_with fail
    go_ret
    exact ⟨rfl, HB.out⟩
  | true =>
    go_wp2_with fail
    refine (HC2.out _ _ GG.out HB.out).mono ?_
    rintro e w4 ⟨rfl, hb4⟩
    have HB4 := Lib.hid (bel_then HB.out hb4)
    clear hb4
    go_wp2_with fail
    go_ret
    exact ⟨rfl, HB4.out⟩
set_option maxHeartbeats 8000000 in
set_option maxRecDepth 100000 in
/-- gram.May -/
theorem gramMay_any (T : List TK) (R : List RU) (tv rv : Value) (w : World) (hT : TksAre w tv T) (hR : RusAre w rv R) (hTl : T.length ≤ 1000) (hRl : R.length ≤ 1000) (hTf : TFit T) (hRf : RFit R) :
    Calls Try.prog 11 #[.agg #[tv, rv]] w fun e w' => e = .returned (.bool (decide ((chkE T R).1 = 0))) ∧ Below w.heap.size w w' := by
  obtain ⟨o7, c7, nm7, kd7, cl7, rk7, so7, sn7, sc7, lo7, ln7, lc7, rfl, -⟩ := hT.all
  obtain ⟨o5, c5, rfl⟩ := hR.form
  have hc := fun w' (hbb : Below w.heap.size w w') => gchk_any T R _ _ w' (hT.moved hbb) (hR.moved hbb) hTl hRl hTf hRf
  obtain ⟨a, ha⟩ : ∃ a, a = (chkE T R).1 := ⟨_, rfl⟩
  obtain ⟨b, hb⟩ : ∃ a, a = (chkE T R).2 := ⟨_, rfl⟩
  rw [← ha, ← hb] at hc
  rw [← ha]
  have HC := Lib.hid hc
  clear hc ha hb hT hR hTf hRf
  have hd : (a == 0) = decide (a = 0) := by by_cases h : a = 0 <;> simp [h]
  have HD := Lib.hid hd
  clear hd
  go_enter Try.func11, Try.ntmps11
  go_wp2_with fail
  refine (HC.out _ (bel_new (Below.refl _ _) _)).mono ?_
  rintro e w2 ⟨rfl, hb2⟩
  have HB := Lib.hid (bel_then (bel_new (Below.refl _ _) _) hb2)
  clear hb2
  go_wp2_with fail
  go_ret
  exact ⟨by first | rfl | (rw [HD.out]) | (rw [← HD.out]; rfl), HB.out⟩
end Go.Proofs.Ytkmnigoikkffnaa

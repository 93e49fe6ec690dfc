import Derived.Test.YtfkmajjgkdjncaaGreatDoorOwn
import Derived.Test.YtfkmajjgkdjncaaGreatDoorRe
import Derived.Deep.AppendSrc
import Derived.IntWalk
set_option linter.unusedVariables false
set_option linter.unusedSimpArgs false
namespace Go.Proofs.YtfkmajjgkdjncaaGreatDoor
open Go.RowKit
theorem afwp_append_full {P : Program} (w : World) {o : Oper} {a : Act} {K : Act → World → Prop} {Q : Exit → Act → World → Prop} (s x : Operand) (t : TypeId)
 (ho : o.op = .call { callee := .builtin .append, args := #[s, x], argTypes := #[t, t] })
 (base : Nat) (e : TypeId) (i : TypeInfo) (z : Value) (size bytes : Nat) (ht : P.underlying t = some (.slice e)) (hi : P.info? e = some i) (hz : i.zero = some z)
 (hsize : i.size = size) (hby : i.bytes = bytes) (hzs : z.cells.size = size) (hsz : 0 < size)
 (b off n : Nat) (xs : List Value) (hs : a.eval s = .slice (some ⟨b, off, none⟩) n n) (hxl : xs.length = n * size) (hxc : ∀ j u, xs[j]? = some u → w.cell? ⟨b, off + j, none⟩ = some u)
 (g : Nat) (news : List Value) (hx : a.eval x = .slice (some ⟨g, 0, none⟩) 1 1) (hnew : ∀ j u, news[j]? = some u → w.cell? ⟨g, j, none⟩ = some u) (hl : news.length = 1 * size)
 (h63 : n + 1 ≤ maxLen) (hbytes : (n + 1) * bytes ≤ 140737488355328) (hbase : base ≤ w.heap.size)
 (h : ∀ c' w', w'.ownsRow base e size (.slice (some ⟨w.heap.size, 0, none⟩) (n + 1) c') (n + 1) (xs ++ news) → Below w.heap.size w w' → K (a.put o.dst (.slice (some ⟨w.heap.size, 0, none⟩) (n + 1) c')) w') : o.wp P a w K Q := by
 subst hsize hby
 have hsmall : n + 1 ≤ 9223372036854775807 := by simp only [maxLen] at h63; omega
 have hadd : ∀ (p q j : Nat), ((⟨p, q, none⟩ : Addr).add j) = ⟨p, q + j, none⟩ := fun p q j => by unfold Addr.add; by_cases e : j = 0 <;> simp [e]
 have hr := run_append_grow (P := P) w t o.type e i z ht hi hz ⟨b, off, none⟩ n n xs hxl (fun j u hj => by rw [hadd]; exact hxc j u hj) ⟨g, 0, none⟩ 1 1 news hl (fun j u hj => by rw [hadd, Nat.zero_add]; exact hnew j u hj) (by omega) (by omega) (growslice_fits (by omega) hbytes)
 have hge := grownCap_ge w (n + 1) n e
 have hcm : grownCap w (n + 1) n e ≤ maxLen := grownCap_le_maxLen w (n + 1) n e h63
 have hlen : (xs ++ news).length = (n + 1) * i.size := by rw [List.length_append, hxl, hl, Nat.add_mul]
 unfold Oper.wp execOp
 simp only [ho, resolve, invoke, builtin, Sem.run_bind, Sem.run_pure, Result.andThen_ok, List.map_toArray, List.map_cons, List.map_nil, hs, hx, hr]
 refine h _ _ ⟨hlen, .inr ⟨w.heap.size, _, _, rfl, hbase, heap_alloc_new w.drew _, hge, hcm, ?_, ?_⟩⟩ (bel_new (Below.refl _ _).drew _)
 · simp only [Array.size_append, List.size_toArray, size_zeroCells, hzs, hxl, hl, ← Nat.add_mul]
   congr 1
   omega
 · simp only [Array.toList_append, List.append_assoc]
   rw [← List.append_assoc, ← hlen]
   exact List.take_left
theorem afstep_append_full {P : Program} (w : World) {ops : Array Oper} {o : Oper} {a : Act} {K : Act → World → Prop} {Q : Exit → Act → World → Prop} {E : Prop} (hgd : o.guard = none) (s x : Operand) (t : TypeId)
 (ho : o.op = .call { callee := .builtin .append, args := #[s, x], argTypes := #[t, t] })
 (base : Nat) (e : TypeId) (i : TypeInfo) (z : Value) (size bytes : Nat) (ht : P.underlying t = some (.slice e)) (hi : P.info? e = some i) (hz : i.zero = some z)
 (hsize : i.size = size) (hby : i.bytes = bytes) (hzs : z.cells.size = size) (hsz : 0 < size)
 (b off n : Nat) (xs : List Value) (hs : a.eval s = .slice (some ⟨b, off, none⟩) n n) (hxl : xs.length = n * size) (hxc : ∀ j u, xs[j]? = some u → w.cell? ⟨b, off + j, none⟩ = some u)
 (g : Nat) (news : List Value) (hx : a.eval x = .slice (some ⟨g, 0, none⟩) 1 1) (hnew : ∀ j u, news[j]? = some u → w.cell? ⟨g, j, none⟩ = some u) (hl : news.length = 1 * size)
 (h63 : n + 1 ≤ maxLen) (hbytes : (n + 1) * bytes ≤ 140737488355328) (hbase : base ≤ w.heap.size)
 (h : ∀ c' w', w'.ownsRow base e size (.slice (some ⟨w.heap.size, 0, none⟩) (n + 1) c') (n + 1) (xs ++ news) → Below w.heap.size w w' → K (a.put o.dst (.slice (some ⟨w.heap.size, 0, none⟩) (n + 1) c')) w') : if Region.wanted o (yielded ops a.tmps) = true then Oper.wp P o a w K Q else E := by
 have hw : Region.wanted o (yielded ops a.tmps) = true := by simp [Region.wanted, hgd]
 rw [if_pos hw]
 exact afwp_append_full w s x t ho base e i z size bytes ht hi hz hsize hby hzs hsz b off n xs hs hxl hxc g news hx hnew hl h63 hbytes hbase h
theorem afowns_turn {w : World} {base size n g c j : Nat} {e : TypeId} {xs : List Value} (u : Value) (h : w.ownsRow base e size (.slice (some ⟨g, 0, none⟩) n c) n xs) : (w.setCell ⟨g, j, none⟩ u).ownsRow base e size (.slice (some ⟨g, 0, none⟩) n c) n (xs.set j u) := by
 refine ⟨by rw [List.length_set]; exact h.1, ?_⟩
 rcases h.2 with ⟨h0, -⟩ | ⟨g', cap, cur, hv, hb, hg, hn, hm, hs, ht⟩
 · cases h0
 · cases hv
   refine .inr ⟨g, c, cur.setIfInBounds j u, rfl, hb, by simp [World.setCell, Array.getElem?_modify, hg], hn, hm, by simpa using hs, ?_⟩
   rw [Array.toList_setIfInBounds, List.take_set, ht]
theorem afown_at {w : World} {B s n c a b : Nat} {e : TypeId} {xs : List Value} (h : w.ownsRow B e s (.slice (some ⟨a, 0, none⟩) n c) n xs) (hab : a = b) : w.ownsRow B e s (.slice (some ⟨b, 0, none⟩) n c) n xs := hab ▸ h
theorem aflast_of {α : Type} {l : List α} (h : 0 < l.length) : ∃ l' q, l = l' ++ [q] := by
 rcases List.eq_nil_or_concat l with rfl | ⟨l', q, rfl⟩
 · simp at h
 · exact ⟨l', q, by simp⟩
theorem afcells_new {w : World} {g : Nat} {xs : List Value} {e : TypeId} (hg : g = w.heap.size) : ∀ (j : Nat) (u : Value), xs[j]? = some u → (w.alloc (.cells xs.toArray e)).cell? ⟨g, j, none⟩ = some u := by
 subst hg
 intro j u hj
 have h := heap_alloc_new w (.cells xs.toArray e)
 unfold World.cell?
 rw [h]
 simpa using hj
theorem afis_append {P : Program} {y : Nat → Option Bool} {dst : Option Tmp} {x : Array Operand} {ts : Array TypeId} {type : TypeId} {pos : String} {af : Array Edge} {gd : Option (Nat × Bool)} {a : Act} {w : World} {K : Act → World → Prop} {Q : Exit → Act → World → Prop} {E : Prop}
 (h : if Region.wanted { dst := dst, op := .call { callee := .builtin .append, args := x, argTypes := ts }, type := type, pos := pos, after := af, guard := gd } y = true then Oper.wp P { dst := dst, op := .call { callee := .builtin .append, args := x, argTypes := ts }, type := type, pos := pos, after := af, guard := gd } a w K Q else E) :
 if Region.wanted { dst := dst, op := .call { callee := .builtin .append, args := x, argTypes := ts }, type := type, pos := pos, after := af, guard := gd } y = true then Oper.wp P { dst := dst, op := .call { callee := .builtin .append, args := x, argTypes := ts }, type := type, pos := pos, after := af, guard := gd } a w K Q else E := h
theorem afbits_one (k : Int) : bits BinOp.and IntKind.i64 k 1 = 0 ∨ bits BinOp.and IntKind.i64 k 1 = 1 := by
 have h : ((BitVec.ofInt 64 k) &&& (BitVec.ofInt 64 1)).toNat = (BitVec.ofInt 64 k).toNat % 2 := by
  rw [BitVec.toNat_and]; exact Nat.and_one_is_mod _
 have e : bits BinOp.and IntKind.i64 k 1 = IntKind.i64.wrap ((((BitVec.ofInt 64 k) &&& (BitVec.ofInt 64 1)).toNat : Nat) : Int) := rfl
 rw [e, h]
 rcases Nat.mod_two_eq_zero_or_one (BitVec.ofInt 64 k).toNat with h2 | h2
 · rw [h2]; exact .inl rfl
 · rw [h2]; exact .inr rfl
theorem afkp_and {S : Nat → Prop} {w : World} {F G H : World → Prop} (hF : KP S w F) (hG : KP S w G) (h : ∀ w', F w' → G w' → H w') : KP S w H := fun w' h' => h w' (hF w' h') (hG w' h')
theorem afu64_mod' (a : Int) (m : Nat) (hm : 0 < m) (hm2 : m ≤ 1048576) : ∃ i : Nat, i < m ∧ (IntKind.u64.wrap a).tmod (m : Int) = (i : Int) := by
 have h0 : 0 ≤ IntKind.u64.wrap a := by unfold IntKind.wrap; simp [IntKind.bits, IntKind.signed]; omega
 have h1 := Int.tmod_nonneg (m : Int) h0
 have h2 := Int.tmod_lt_of_pos (IntKind.u64.wrap a) (show (0 : Int) < (m : Int) by omega)
 exact ⟨((IntKind.u64.wrap a).tmod (m : Int)).toNat, by omega, by omega⟩
theorem afrow_block {w : World} {g n size : Nat} {cs : Array Value} {e : TypeId} (h : w.heap[g]? = some (.cells cs e (0, 0))) (hs : cs.size = n * size) (hn : n ≤ maxLen) : w.ownsRow g e size (.slice (some ⟨g, 0, none⟩) n n) n cs.toList :=
 ⟨by simpa using hs, .inr ⟨g, n, cs, rfl, Nat.le_refl _, h, Nat.le_refl _, hn, hs, List.take_of_length_le (by simp [hs])⟩⟩
theorem afrow_new {w : World} {e : TypeId} {g size : Nat} {cs : Array Value} (hs : cs.size = size) (hg : g = w.heap.size) : Row (w.alloc (.cells cs e)) (.slice (some ⟨g, 0, none⟩) 1 1) 1 cs.toList := by
 subst hg; exact Row.owned (afrow_block (n := 1) (size := size) (heap_alloc_new w _) (by simpa using hs) (by decide))
end Go.Proofs.YtfkmajjgkdjncaaGreatDoor

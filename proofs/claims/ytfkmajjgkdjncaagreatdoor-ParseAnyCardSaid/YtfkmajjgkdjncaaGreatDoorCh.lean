import Derived.Test.YtfkmajjgkdjncaaGreatDoorRowsOf
import Derived.Lib.Hide
import Derived.Deep.QuietTactic
import Derived.BigQuiet
set_option linter.unusedVariables false
set_option linter.unusedSimpArgs false
namespace Go.Proofs.YtfkmajjgkdjncaaGreatDoor
open Go.RowKit
structure Ch (w w':World) (p:Nat):Prop where
 os:w'.os=w.os
 tape:w'.tape=w.tape
 output:w'.output=w.output
 size:w.heap.size≤w'.heap.size
 block:∀k,k<w.heap.size→k≠p→w'.heap[k]? = w.heap[k]?
theorem dK {w:World} {q:Nat} {o:Obj} (h:w.heap[q]? = some o):q<w.heap.size:=by
 rcases Nat.lt_or_ge q w.heap.size with h1|h1;exact h1;rw[Array.getElem?_eq_none h1] at h;cases h
theorem Ch.refl (w:World) (p:Nat):Ch w w p:=⟨rfl,rfl,rfl,Nat.le_refl _,fun _ _ _=>rfl⟩
theorem Ch.trans {a b c:World} {p:Nat} (h:Ch a b p) (k:Ch b c p):Ch a c p:=
 ⟨k.os.trans h.os,k.tape.trans h.tape,k.output.trans h.output,Nat.le_trans h.size k.size,fun j hj hp=>by have:=h.size;rw[k.block j (by omega) hp,h.block j hj hp]⟩
theorem Ch.of {w w':World} {p:Nat} (h:Below w.heap.size w w'):Ch w w' p:=⟨h.os,h.tape,h.output,h.size,fun k hk _=>h.block k hk⟩
theorem Ch.drewN {w:World} (p n:Nat):Ch w (w.drewN n) p:=⟨rfl,rfl,rfl,Nat.le_refl _,fun _ _ _=>rfl⟩
theorem Ch.set (w:World) (p i:Nat) (x:Value):Ch w (w.setCell ⟨p,i,none⟩ x) p:=
 ⟨rfl,rfl,rfl,by simp[World.setCell],fun k _ hp=>Below.heap_setCell _ _ _ _ hp⟩
theorem Ch.xU {a b c:World} {p:Nat} (h:Ch a b p) (k:Below b.heap.size b c):Ch a c p:=h.trans (Ch.of k)
theorem Ch.new (w:World) (o:Obj) (p:Nat):Ch w (w.alloc o) p:=Ch.of (ah (Below.refl _ _) o)
theorem Ch.aL {w w':World} {p E i:Nat} {x:Value} (h:Ch w w' p) (hE:w.heap.size≤E):Ch w (w'.setCell ⟨E,i,none⟩ x) p:=
 ⟨h.os,h.tape,h.output,by simpa [World.setCell] using h.size,fun k hk hp=>by rw[Below.heap_setCell _ _ _ _ (by simp;omega)];exact h.block k hk hp⟩
theorem Ch.after {w0 w w':World} {p:Nat} (h:Below w0.heap.size w0 w) (k:Ch w w' p) (hp:w0.heap.size≤p):Below w0.heap.size w0 w':=
 h.trans ⟨k.os,k.tape,k.output,k.size,fun j hj=>k.block j (by have:=h.size;omega) (by omega)⟩
theorem Ch.get {w w':World} {p q:Nat} {o:Obj} (h:Ch w w' p) (hq:w.heap[q]? = some o) (hne:q≠p):w'.heap[q]? = some o:=by rw[h.block q (dK hq) hne];exact hq
theorem aB {w w':World} {q:Nat} {o:Obj} (h:Below w.heap.size w w') (hq:w.heap[q]? = some o):w'.heap[q]? = some o:=by rw[h.block q (dK hq)];exact hq
theorem aj {w:World} {p:Nat} {a:Value} {t:TypeId} (h:w.heap[p]? = some (.cells #[a] t (0,0))) :
 w.cell? ⟨p,0,none⟩=some a∧w.frozen? ⟨p,0,none⟩=false:=by
 simp[World.cell?,World.frozen?,h]
theorem mg {w:World} {p:Nat} {a:Value} {t:TypeId} (h:w.heap[p]? = some (.cells #[a] t (0,0))) (x:Value):(w.setCell ⟨p,0,none⟩ x).heap[p]? = some (.cells #[x] t (0,0)):=by
 simp[World.setCell,Array.getElem?_modify,h]
end Go.Proofs.YtfkmajjgkdjncaaGreatDoor

import Derived.Test.YtfkmajjgkdjncaaGreatDoorClsRune
import Derived.Test.YtfkmajjgkdjncaaGreatDoorClsEl
import Derived.Deep.LoopGhost
import Derived.Deep.RegionHeld
import Derived.Test.YtfkmajjgkdjncaaGreatDoorStill
set_option linter.unusedVariables false
set_option linter.unusedSimpArgs false
set_option maxHeartbeats 4000000
set_option maxRecDepth 100000
namespace Go.Proofs.YtfkmajjgkdjncaaGreatDoor
open Go.RowKit De Wd
namespace Wd
def Sc (L:Its):Prop:=∀p∈L,p.2.bad=false→jr p.2.r
theorem xE:∀(n a:Nat) (l:List Int),l.length≤n→(∀x∈l,0≤x∧x<256)→Sc (all a l):=by
 intro n
 induction n with
 | zero=>intro a l h hu p hp;have:l=[]:=List.eq_nil_of_length_eq_zero (by omega);subst this;rw[all_nil] at hp;simp at hp
 | succ n ih =>
  intro a l h hu p hp hb
  by_cases hl:l=[]
  · subst hl;rw[all_nil] at hp;simp at hp
  · rw [all_cons a l hl, List.mem_cons] at hp
    have h1:=(mU l).1
    rcases hp with rfl|hp
    · exact(Fh l hu hb).1
    · exact ih _ _ (by rw[List.length_drop];omega) (fun x hx=>hu x (List.mem_of_mem_drop hx)) p hp hb
theorem Sc.pk {L:Its} (h:Sc L) (k:Nat):pk L k=-1∨(k<L.length∧jr (pk L k)):=by
 unfold Wd.pk
 cases hk:L[k]? with
 | none=>exact .inl rfl
 | some p =>
  obtain⟨h1,h2⟩:=List.getElem?_eq_some_iff.1 hk
  cases hb:p.2.bad with
  | true=>left;simp[hb]
  | false =>
   right
   refine⟨h1,?_⟩
   have:=h p (by rw[←h2];exact List.getElem_mem h1) hb
   simpa [hb] using this
def KI:List Int:=[110,114,116,117,47,124,42,40,41,91,93,92,46,45,94,123,125]
def Bp (r:Int):Bool:=decide (r∈KI)
def JC (r:Int):Bool:=decide (r=123)
def dg (r:Int):Int:=if 48≤r∧r≤57 then r-48 else if 65≤r∧r≤70 then r-55 else -1
theorem KJ (r:Int) : -1≤dg r∧dg r≤15:=by unfold dg;split<;>(try split)<;>omega
def tq (c:Nat) (n r:Int):Bool:=decide (c<6) && decide (0≤dg r) && decide (n*16+dg r≤1114111)
def num (L:Its):Nat→Nat→Int→Nat→Except Nat (Int×Nat)
 | 0,_,_,k=>.error k
 | f + 1, c, n, k => if c ≠ 0 ∧ pk L k = 125 then (if 55296 ≤ n ∧ n < 57344 then .error k else .ok (n, k + 1))
  else if 0≤pk L k∧tq c n (pk L k)=true then num L f (c+1) (n*16+dg (pk L k)) (k+1) else .error k
def esc (L:Its) (k:Nat):Except Nat (Int×Nat):=
 if 0≤pk L k∧Bp (pk L k)=true then
  if pk L k=110 then .ok (10,k+1) else if pk L k=114 then .ok (13,k+1) else if pk L k=116 then .ok (9,k+1)
  else if pk L k=117 then (if 0≤pk L (k+1)∧JC (pk L (k+1))=true then num L 7 0 0 (k+2) else .error (k+1)) else .ok (pk L k,k+1)
 else .error k
def lt (L:Its) (k:Nat):Except Nat (Int×Nat):=
 if 0≤pk L k∧rJ (pk L k)=true then if pk L k=92 then esc L (k+1) else .ok (pk L k,k+1) else .error k
def kU (L:Its) (k:Nat):Except Nat ((Int×Int)×Nat):=
 match lt L k with
 | .error j=>.error j
 | .ok (a, k1) => if pk L k1 = 45 then
  (match lt L (k1 + 1) with
   | .error j=>.error j
   | .ok (b,k2)=>if b<a then .error (k1+1) else .ok ((a,b),k2))
  else .ok ((a,a),k1)
theorem Bq {L:Its} {k:Nat} (h:0≤pk L k):k<L.length:=by
 rcases Nat.lt_or_ge k L.length with h1|h1
 · exact h1
 · rw[pq (by omega)] at h;omega
theorem UD {L:Its}:∀(f c:Nat) (n:Int) (k:Nat) {r:Int} {k':Nat},0≤n→n≤1114111→num L f c n k=.ok (r,k')→k<k'∧k'≤L.length∧jr r:=by
 intro f
 induction f with
 | zero=>intro c n k r k' _ _ h;simp[num] at h
 | succ f ih =>
  intro c n k r k' h0 h1 h
  simp only[num] at h
  split at h
  · rename_i hc
    split at h
    · cases h
    · rename_i hs
      cases h
      have:=Bq (L:=L) (k:=k) (by omega)
      refine⟨by omega,by omega,?_⟩
      unfold jr;omega
  · split at h
    · rename_i hd
      simp only[tq,Bool.and_eq_true,decide_eq_true_eq] at hd
      have:=KJ (pk L k)
      have:=ih _ _ _ (by omega) (by omega) h
      exact⟨by omega,this.2.1,this.2.2⟩
    · cases h
theorem EF {L:Its} (hsc:Sc L) {k k':Nat} {r:Int} (h:lt L k=.ok (r,k')):k<k'∧k'≤L.length∧jr r:=by
 unfold lt at h
 split at h
 · rename_i h1
   have l1:=Bq h1.1
   have s1:jr (pk L k):=by rcases hsc.pk k with e|e;omega;exact e.2
   split at h
   · unfold esc at h
     split at h
     · rename_i h2
       have l2:=Bq h2.1
       have s2:jr (pk L (k+1)):=by rcases hsc.pk (k+1) with e|e;omega;exact e.2
       split at h
       · cases h;exact⟨by omega,by omega,by unfold jr;omega⟩
       split at h
       · cases h;exact⟨by omega,by omega,by unfold jr;omega⟩
       split at h
       · cases h;exact⟨by omega,by omega,by unfold jr;omega⟩
       split at h
       · split at h
         · have := UD _ _ _ _ (by omega) (by omega) h
           exact⟨by omega,this.2.1,this.2.2⟩
         · cases h
       · cases h;exact⟨by omega,by omega,s2⟩
     · cases h
   · cases h;exact⟨by omega,by omega,s1⟩
 · cases h
theorem UE {L:Its} (hsc:Sc L) {k k':Nat} {q:Int×Int} (h:kU L k=.ok (q,k')):k<k'∧k<L.length∧k'≤L.length∧q.1≤q.2∧jr q.1∧jr q.2:=by
 unfold kU at h
 cases h1:lt L k with
 | error j=>rw[h1] at h;cases h
 | ok x =>
  obtain⟨a,k1⟩:=x
  have l1:=EF hsc h1
  rw[h1] at h
  simp only at h
  split at h
  · cases h2 : lt L (k1 + 1) with
    | error j=>rw[h2] at h;cases h
    | ok y =>
     obtain⟨b,k2⟩:=y
     have l2:=EF hsc h2
     rw[h2] at h
     simp only at h
     split at h
     · cases h
     · cases h;exact⟨by omega,by omega,by omega,by simp only;omega,l1.2.2,l2.2.2⟩
  · cases h;exact⟨by omega,by omega,by omega,by simp,l1.2.2,l1.2.2⟩
theorem SH:∀n:Nat,n<128→decide (0≤Lib.indexByte [110,114,116,117,47,124,42,40,41,91,93,92,46,45,94,123,125] n.toUInt8)=decide ((n:Int)∈KI):=by decide +kernel
theorem xR {r:Int} (h:jr r):Utf8.valid r=true:=by rw[validRune_eq];unfold validRune;unfold jr at h;rw[decide_eq_true_eq];omega
theorem KL {r:Int} (h:r∈KI):r<128:=by simp[KI] at h;omega
theorem KM {r:Int} (h:r∈xV):r<128:=by simp[xV] at h;omega
end Wd
theorem Y4:Asc ⟨#[47,124,42,40,41,91,93,45]⟩:=⟨by decide,by decide⟩
theorem Y5:Asc ⟨#[110,114,116,117,47,124,42,40,41,91,93,92,46,45,94,123,125]⟩:=⟨by decide,by decide⟩
theorem FD (r:Int) (w:World) (hr:jr r) :
 Calls Tryz.prog 226 #[.int .i32 r] w fun e w'=>e=.returned (.bool (rJ r))∧Below w.heap.size w w':=by
 have h0:0≤r:=by unfold jr at hr;omega
 by_cases h:r<128
 · refine (IW r w h0 h).mono ?_
   rintro e w' ⟨rfl,rfl⟩
   exact⟨rfl,Below.refl _ _⟩
 · have hc := fun w => sU _ r w Y4 (by omega) (xR hr)
   have ho:rJ r=true:=by
    unfold rJ
    have:¬r∈xV:=fun hm=>h (KM hm)
    simp[this];omega
   have h32:decide ((32:Int)≤r)=true:=by simp;omega
   have HC:=Lib.hid hc
   have HO:=Lib.hid ho
   clear hc ho hr
   go_enter Tryz.func226,Tryz.ntmps226
   go_wp2_with fail
   refine(HC.out _).mono ?_
   rintro e w' ⟨rfl,hb⟩
   go_wp2
   go_ret
   exact⟨by rw[HO.out];rfl,hb⟩
theorem Br (r:Int) (w:World) (h0:0≤r) (h1:r<128) :
 Calls Tryz.prog 138 #[.string ⟨#[110,114,116,117,47,124,42,40,41,91,93,92,46,45,94,123,125]⟩,.int .i32 r] w fun e w'=>e=.returned (.bool (Bp r))∧w=w':=by
 have hx:=SH r.toNat (by omega)
 have er:((r.toNat:Nat):Int)=r:=by omega
 rw[er] at hx
 have hc:=fun w=>lU ⟨#[110,114,116,117,47,124,42,40,41,91,93,92,46,45,94,123,125]⟩ r w h0 h1
 have e2:(⟨#[110,114,116,117,47,124,42,40,41,91,93,92,46,45,94,123,125]⟩:ByteArray).data.toList=[110,114,116,117,47,124,42,40,41,91,93,92,46,45,94,123,125]:=rfl
 rw[e2] at hc
 obtain⟨ix,hix⟩:∃ix,ix=Lib.indexByte [110,114,116,117,47,124,42,40,41,91,93,92,46,45,94,123,125] r.toNat.toUInt8:=⟨_,rfl⟩
 rw[←hix] at hx hc
 have hx2:decide (0≤ix)=Bp r:=hx
 have HC:=Lib.hid hc
 have HX:=Lib.hid hx2
 clear hc hx hx2 hix e2 er
 go_enter Tryz.func138,Tryz.ntmps138
 go_wp2_with fail
 refine(HC.out _).mono ?_
 rintro e w' ⟨rfl,rfl⟩
 go_wp2
 go_ret
 exact⟨by rw[←HX.out];rfl,rfl⟩
theorem CX (r:Int) (w:World) (hr:jr r) :
 Calls Tryz.prog 138 #[.string ⟨#[110,114,116,117,47,124,42,40,41,91,93,92,46,45,94,123,125]⟩,.int .i32 r] w fun e w'=>e=.returned (.bool (Bp r))∧Below w.heap.size w w':=by
 have h0:0≤r:=by unfold jr at hr;omega
 by_cases h:r<128
 · refine (Br r w h0 h).mono ?_
   rintro e w' ⟨rfl,rfl⟩
   exact⟨rfl,Below.refl _ _⟩
 · have ho : Bp r = false := by
    unfold Bp
    rw[decide_eq_false_iff_not]
    exact fun hm=>h (KL hm)
   rw[ho]
   exact sU _ r w Y5 (by omega) (xR hr)
theorem FE (r:Int) (w:World) (hr:jr r) :
 Calls Tryz.prog 227 #[.int .i32 r] w fun e w'=>e=.returned (.bool (Bp r))∧Below w.heap.size w w':=by
 have hc:=fun w=>CX r w hr
 have HC:=Lib.hid hc
 clear hc hr
 go_enter Tryz.func227,Tryz.ntmps227
 go_wp2_with fail
 refine(HC.out _).mono ?_
 rintro e w' ⟨rfl,hb⟩
 go_wp2
 go_ret
 exact⟨rfl,hb⟩
theorem FH (r:Int) (w:World) (hr:jr r) :
 Calls Tryz.prog 240 #[.int .i32 r] w fun e w'=>e=.returned (.bool (JC r))∧Below w.heap.size w w':=by
 have HO:=Lib.hid (show JC r=decide (r=123) from rfl)
 clear hr
 go_enter Tryz.func240,Tryz.ntmps240
 go_wp2
 go_ret
 exact⟨by rw[HO.out];by_cases h:r=123<;>simp[h],Below.refl _ _⟩
theorem xW (r:Int) (w:World) (h0:0≤r) (h1:r≤1114111) :
 Calls Tryz.prog 242 #[.int .i32 r] w fun e w'=>e=.returned (.int .i32 (dg r))∧w=w':=by
 by_cases a1:48≤r∧r≤57
 · have hd : dg r = r - 48 := by unfold dg; rw [if_pos a1]
   have d1:decide ((48:Int)≤r)=true:=by simpa using a1.1
   have d2:decide (r≤(57:Int))=true:=by simpa using a1.2
   have HD:=Lib.hid hd
   obtain⟨b1,b2⟩:=a1
   clear hd
   go_enter Tryz.func242,Tryz.ntmps242
   go_wp2
   go_ret
   exact⟨by rw[HD.out];rfl,rfl⟩
 · by_cases a2 : 65 ≤ r ∧ r ≤ 70
   · have hd : dg r = r - 55 := by unfold dg; rw [if_neg a1, if_pos a2]
     have d1:decide ((48:Int)≤r)=true:=by simp;omega
     have d2:decide (r≤(57:Int))=false:=by simp;omega
     have d3:decide ((65:Int)≤r)=true:=by simpa using a2.1
     have d4:decide (r≤(70:Int))=true:=by simpa using a2.2
     have HD:=Lib.hid hd
     obtain⟨b1,b2⟩:=a2
     clear hd a1
     go_enter Tryz.func242,Tryz.ntmps242
     go_wp2
     go_ret
     exact⟨by rw[HD.out,show r-55=r-65+10 by omega];rfl,rfl⟩
   · have hd : dg r = -1 := by unfold dg; rw [if_neg a1, if_neg a2]
     have HD:=Lib.hid hd
     clear hd
     by_cases c1:48≤r
     · have d1 : decide ((48 : Int) ≤ r) = true := by simpa using c1
       have d2:decide (r≤(57:Int))=false:=by simp;omega
       by_cases c2:65≤r
       · have d3 : decide ((65 : Int) ≤ r) = true := by simpa using c2
         have d4:decide (r≤(70:Int))=false:=by simp;omega
         clear a1 a2
         go_enter Tryz.func242,Tryz.ntmps242
         go_wp2
         go_ret
         exact⟨by rw[HD.out];rfl,rfl⟩
       · have d3 : decide ((65 : Int) ≤ r) = false := by simpa using c2
         clear a1 a2
         go_enter Tryz.func242,Tryz.ntmps242
         go_wp2
         go_ret
         exact⟨by rw[HD.out];rfl,rfl⟩
     · have d1 : decide ((48 : Int) ≤ r) = false := by simpa using c1
       have d3:decide ((65:Int)≤r)=false:=by simp;omega
       clear a1 a2
       go_enter Tryz.func242,Tryz.ntmps242
       go_wp2
       go_ret
       exact⟨by rw[HD.out];rfl,rfl⟩
theorem FI (r:Int) (q1 q2 c:Nat) (m:Int) (w:World) (h0:0≤r) (h1:r≤1114111) (hc:c≤100) (m0:0≤m) (m1:m≤1114111)
 (hq1:w.heap[q1]? = some (.cells #[.int .i64 c] 3 (0,0))) (hq2:w.heap[q2]? = some (.cells #[.int .i32 m] 21 (0,0))) :
 Calls Tryz.prog 241 #[.int .i32 r,.pointer (some ⟨q1,0,none⟩),.pointer (some ⟨q2,0,none⟩)] w fun e w'=>e=.returned (.bool (tq c m r))∧Below w.heap.size w w':=by
 have hdg:=KJ r
 have hd:=fun w=>xW r w h0 h1
 have hk:tq c m r=(decide (c<6) && decide (0≤dg r) && decide (m*16+dg r≤1114111)):=rfl
 obtain⟨d,hdd⟩:∃d,d=dg r:=⟨_,rfl⟩
 rw[←hdd] at hdg hd hk
 obtain⟨k1,f1⟩:=aj hq1
 obtain⟨k2,f2⟩:=aj hq2
 have HD:=Lib.hid hd
 have HK:=Lib.hid hk
 clear hd hk hdd hq1 hq2
 have bZ:(c:Int)≤100:=by omega
 by_cases t1:c<6
 · have e1 : decide ((c : Int) < 6) = true := by simp; omega
   have g1:decide (c<6)=true:=by simpa using t1
   by_cases t2:0≤d
   · have e2 : decide ((0 : Int) ≤ d) = true := by simpa using t2
     by_cases t3:m*16+d≤1114111
     · have e3 : decide (m * 16 + d ≤ 1114111) = true := by simpa using t3
       have HE:=Lib.hid (show tq c m r=true by rw[HK.out,g1,e2,e3];rfl)
       clear HK
       go_enter Tryz.func241,Tryz.ntmps241
       go_wp2_with fail
       go_quiet ((go_at_call 242;exact Calls.quiet_of_same ((HD.out _).mono (fun e w' h=>⟨h.1,h.2.symm⟩))))
       go_wp2
       go_ret
       exact⟨by rw[HE.out];rfl,by repeat (first|exact Below.refl _ _|(refine below_drewN ?_ _)|(refine Below.drew ?_))⟩
     · have e3 : decide (m * 16 + d ≤ 1114111) = false := by simpa using t3
       have HE:=Lib.hid (show tq c m r=false by rw[HK.out,g1,e2,e3];rfl)
       clear HK
       go_enter Tryz.func241,Tryz.ntmps241
       go_wp2_with fail
       go_quiet ((go_at_call 242;exact Calls.quiet_of_same ((HD.out _).mono (fun e w' h=>⟨h.1,h.2.symm⟩))))
       go_wp2
       go_ret
       exact⟨by rw[HE.out];rfl,by repeat (first|exact Below.refl _ _|(refine below_drewN ?_ _)|(refine Below.drew ?_))⟩
   · have e2 : decide ((0 : Int) ≤ d) = false := by simpa using t2
     have HE:=Lib.hid (show tq c m r=false by rw[HK.out,g1,e2];rfl)
     clear HK
     go_enter Tryz.func241,Tryz.ntmps241
     go_wp2_with fail
     go_quiet ((go_at_call 242;exact Calls.quiet_of_same ((HD.out _).mono (fun e w' h=>⟨h.1,h.2.symm⟩))))
     go_wp2
     go_ret
     exact⟨by rw[HE.out];rfl,by repeat (first|exact Below.refl _ _|(refine below_drewN ?_ _)|(refine Below.drew ?_))⟩
 · have e1 : decide ((c : Int) < 6) = false := by simp; omega
   have g1:decide (c<6)=false:=by simpa using t1
   have HE:=Lib.hid (show tq c m r=false by rw[HK.out,g1];rfl)
   clear HK
   go_enter Tryz.func241,Tryz.ntmps241
   go_wp2_with fail
   go_quiet ((go_at_call 242;exact Calls.quiet_of_same ((HD.out _).mono (fun e w' h=>⟨h.1,h.2.symm⟩))))
   go_wp2
   go_ret
   exact⟨by rw[HE.out];rfl,by repeat (first|exact Below.refl _ _|(refine below_drewN ?_ _)|(refine Below.drew ?_))⟩
def tu (ok:Int→Bool) (p:Nat) (L:Its) (k n:Nat) (v:Value) (w:World) (e:Ending) (w':World):Prop:=
 ((0≤pk L k∧ok (pk L k)=true)∧e=.returned (.int .i32 (pk L k))∧CI w' p L (k+1) n v∧Ch w w' p)∨(¬(0≤pk L k∧ok (pk L k)=true)∧e=xA 3 (aA L n k)∧CI w' p L k n v∧Ch w w' p)
theorem UF {ok:Int→Bool} {p:Nat} {L:Its} {k n:Nat} {v:Value} {w w':World} (h:0≤pk L k∧ok (pk L k)=true) (hi:CI w' p L (k+1) n v) (hc:Ch w w' p):tu ok p L k n v w (.returned (.int .i32 (pk L k))) w':=.inl ⟨h,rfl,hi,hc⟩
theorem Xx {ok:Int→Bool} {p:Nat} {L:Its} {k n:Nat} {v:Value} {w w':World} (h:¬(0≤pk L k∧ok (pk L k)=true)) (hi:CI w' p L k n v) (hc:Ch w w' p):tu ok p L k n v w (xA 3 (aA L n k)) w':=.inr ⟨h,rfl,hi,hc⟩
theorem CI.lt' {w:World} {p k n:Nat} {L:Its} {v:Value} (h:CI w p L k n v):p<w.heap.size:=by
 rcases Nat.lt_or_ge p w.heap.size with h1|h1;exact h1;have:=h.hh;rw[Array.getElem?_eq_none h1] at this;cases this
theorem wE (fn:FuncId) (first caps:Array Value) (ok:Int→Bool) (p k n:Nat) (L:Its) (v:Value) (w:World) (h:CI w p L k n v) (hsc:Sc L)
 (hcf:∀args w,(callFunc fn args).run Tryz.prog w=.ok (.enter fn args) w)
 (hf:∀q,jr (pk L k)→Calls Tryz.prog fn (first ++ #[.int .i32 (pk L k)]++caps) (w.drewN q) fun e w'=>e=.returned (.bool (ok (pk L k)))∧Below (w.drewN q).heap.size (w.drewN q) w') :
 Calls Tryz.prog 225 #[.pointer (some ⟨p,0,none⟩),.func (Fn.func fn) first caps] w (tu ok p L k n v w):=by
 have hpe:=fun w h=>l8 p k n L v w h
 have H:=Lib.hid h
 have hcase:=hsc.pk k
 obtain⟨r,hr⟩:∃r,r=pk L k:=⟨_,rfl⟩
 have hyes:=fun w'=>UF (ok:=ok) (p:=p) (L:=L) (k:=k) (n:=n) (v:=v) (w:=w) (w':=w')
 have hno:=fun w'=>Xx (ok:=ok) (p:=p) (L:=L) (k:=k) (n:=n) (v:=v) (w:=w) (w':=w')
 rw[←hr] at hpe hcase hyes hno hf
 have zD:=Lib.hid hf
 have qV:=Lib.hid hpe
 have HY:=Lib.hid hyes
 have HN:=Lib.hid hno
 clear hpe h hr hsc hyes hno hf
 have hsm:k≤1000000:=Nat.le_trans H.out.le H.out.small
 rcases hcase with rfl|⟨hk,hs⟩
 · go_enter Tryz.func225, Tryz.ntmps225
   go_wp2_with fail
   refine(qV.out _ H.out).mono ?_
   rintro e w1 ⟨rfl,q,rfl⟩
   go_wp2_with fail
   refine(oF p k n L v _ (H.out.drewN q)).mono ?_
   rintro e w2 ⟨rfl,q2,rfl⟩
   go_wp2
   exact⟨rfl,HN.out _ (by omega) (H.out.drewN _) (Ch.drewN p _)⟩
 · have hs0 : 0 ≤ r := hs.1
   have hs1:r≤1114111:=hs.2.1
   have hr0:decide (r<0)=false:=by simpa using hs.1
   have HS:=Lib.hid hs
   clear hs
   cases ho:ok r with
   | true =>
    have HO:=Lib.hid ho
    go_enter Tryz.func225,Tryz.ntmps225
    go_wp2_with fail
    refine(qV.out _ H.out).mono ?_
    rintro e w1 ⟨rfl,q,rfl⟩
    go_wp2_with fail
    refine(zD.out q HS.out).mono ?_
    rintro e w' ⟨rfl,hb⟩
    rw[HO.out]
    have hci:=(H.out.drewN q).moved hb
    have hch:=(Ch.drewN (w:=w) p q).xU hb
    obtain⟨⟨c0,c1,c2⟩,f0,f1,f2⟩:=gD hci.hh
    have HC:=Lib.hid (And.intro hci hch)
    clear hci hch ho hb
    go_wp2
    go_ret
    have hat:=HC.out.1.at (k':=k+1) (by omega)
    exact HY.out _ ⟨hs0,HO.out⟩ (by simpa using hat) (HC.out.2.trans (Ch.set _ _ _ _))
   | false =>
    have HO:=Lib.hid ho
    go_enter Tryz.func225,Tryz.ntmps225
    go_wp2_with fail
    refine(qV.out _ H.out).mono ?_
    rintro e w1 ⟨rfl,q,rfl⟩
    go_wp2_with fail
    refine(zD.out q HS.out).mono ?_
    rintro e w' ⟨rfl,hb⟩
    rw[HO.out]
    have hci:=(H.out.drewN q).moved hb
    have hch:=(Ch.drewN (w:=w) p q).xU hb
    have HC:=Lib.hid (And.intro hci hch)
    clear hci hch ho hb
    go_wp2_with fail
    refine(oF p k n L v _ HC.out.1).mono ?_
    rintro e w2 ⟨rfl,q2,rfl⟩
    go_wp2
    exact⟨rfl,HN.out _ (by rw[HO.out];simp) (HC.out.1.drewN _) (HC.out.2.trans (Ch.drewN p _))⟩
theorem take1 (p k n:Nat) (L:Its) (v:Value) (w:World) (h:CI w p L k n v) (hsc:Sc L) :
 Calls Tryz.prog 225 #[.pointer (some ⟨p,0,none⟩),.func (Fn.func 226) #[] #[]] w (tu (rJ) p L k n v w):=
 wE 226 #[] #[] (rJ) p k n L v w h hsc (enters_of Tryz.func226 (by kernel_rfl) rfl) (fun q hs=>FD (pk L k) (w.drewN q) hs)
theorem take2 (p k n:Nat) (L:Its) (v:Value) (w:World) (h:CI w p L k n v) (hsc:Sc L) :
 Calls Tryz.prog 225 #[.pointer (some ⟨p,0,none⟩),.func (Fn.func 227) #[] #[]] w (tu (Bp) p L k n v w):=
 wE 227 #[] #[] (Bp) p k n L v w h hsc (enters_of Tryz.func227 (by kernel_rfl) rfl) (fun q hs=>FE (pk L k) (w.drewN q) hs)
theorem take3 (p k n:Nat) (L:Its) (v:Value) (w:World) (h:CI w p L k n v) (hsc:Sc L) :
 Calls Tryz.prog 225 #[.pointer (some ⟨p,0,none⟩),.func (Fn.func 240) #[] #[]] w (tu (JC) p L k n v w):=
 wE 240 #[] #[] (JC) p k n L v w h hsc (enters_of Tryz.func240 (by kernel_rfl) rfl) (fun q hs=>FH (pk L k) (w.drewN q) hs)
theorem QL (p k n:Nat) (L:Its) (v:Value) (w:World) (h:CI w p L k n v) (hsc:Sc L) (q1 q2 c:Nat) (m:Int) (hc:c≤100) (m0:0≤m) (m1:m≤1114111) (HQ:Hid (w.heap[q1]? = some (.cells #[.int .i64 c] 3 (0,0))∧w.heap[q2]? = some (.cells #[.int .i32 m] 21 (0,0)))) :
 Calls Tryz.prog 225 #[.pointer (some ⟨p,0,none⟩),.func (Fn.func 241) #[] #[.pointer (some ⟨q1,0,none⟩),.pointer (some ⟨q2,0,none⟩)]] w (tu (tq c m) p L k n v w):=
 wE 241 #[] #[.pointer (some ⟨q1,0,none⟩),.pointer (some ⟨q2,0,none⟩)] (tq c m) p k n L v w h hsc (enters_of Tryz.func241 (by kernel_rfl) rfl) (fun q hs=>FI (pk L k) q1 q2 c m (w.drewN q) hs.1 hs.2.1 hc m0 m1 HQ.out.1 HQ.out.2)
namespace Wd
def nm (L:Its) (k:Nat):Except Nat (Int×Nat):=if 0≤pk L k∧JC (pk L k)=true then num L 7 0 0 (k+1) else .error k
end Wd
def wF (x:Except Nat (Int×Nat)) (p:Nat) (L:Its) (n:Nat) (v:Value) (w:World) (e:Ending) (w':World):Prop:=
 match x with
 | .ok y=>e=.returned (.int .i32 y.1)∧CI w' p L y.2 n v∧Ch w w' p
 | .error j=>e=xA 3 (aA L n j)∧Ch w w' p
theorem uI {x:Except Nat (Int×Nat)} {r:Int} {k' p n:Nat} {L:Its} {v:Value} {w w':World} (h:x=.ok (r,k')) (hi:CI w' p L k' n v) (hc:Ch w w' p):wF x p L n v w (.returned (.int .i32 r)) w':=by subst h;exact⟨rfl,hi,hc⟩
theorem Ae {x:Except Nat (Int×Nat)} {j p n:Nat} {L:Its} {v:Value} {w w':World} (h:x=.error j) (hc:Ch w w' p):wF x p L n v w (xA 3 (aA L n j)) w':=by subst h;exact⟨rfl,hc⟩
structure uJ (w wr:World) (p q q2:Nat) (L:Its) (n k0:Nat) (v:Value) (f c:Nat) (m:Int) (k:Nat):Prop where
 ci:CI wr p L k n v
 ch:Ch w wr p
 hq:wr.heap[q]? = some (.cells #[.int .i64 c] 3 (0,0))
 hq2:wr.heap[q2]? = some (.cells #[.int .i32 m] 21 (0,0))
 lq:w.heap.size≤q
 Ml:w.heap.size≤q2
 ne:q≠q2
 fc:c+f=7
 f1:1≤f
 m0:0≤m
 m1:m≤1114111
 eq:num L 7 0 0 k0=num L f c m k
theorem pF (n:Int) (h0:0≤n) (h1:n<2147483648):IntKind.i32.wrap n=n:=by
 have hm:n % 4294967296=n:=by omega
 unfold IntKind.wrap
 simp[IntKind.bits,IntKind.signed,hm]
 omega
theorem uJ.drewN {w wr:World} {p q q2 n k0 f c k:Nat} {L:Its} {v:Value} {m:Int} (h:uJ w wr p q q2 L n k0 v f c m k) (z:Nat):uJ w (wr.drewN z) p q q2 L n k0 v f c m k:=
 ⟨h.ci.drewN z,h.ch.trans (Ch.drewN p z),h.hq,h.hq2,h.lq,h.Ml,h.ne,h.fc,h.f1,h.m0,h.m1,h.eq⟩
theorem uJ.next {w X w5 w7:World} {p q q2 n k0 g c k Z5:Nat} {L:Its} {v:Value} {m m':Int} (h0:CI w p L Z5 n v) (h:uJ w X p q q2 L n k0 v (g+1) c m k) (hc:c<6) (m0:0≤m') (m1:m'≤1114111)
 (hci:CI w5 p L (k+1) n v) (hch:Ch X w5 p) (he:num L (g+1) c m k=num L g (c+1) m' (k+1))
 (h7:w7=(w5.drew.setCell ⟨q2,0,none⟩ (.int .i32 m')).alloc (.cells #[.int .i64 ((c+1:Nat):Int)] 3)) :
 uJ w w7 p w5.heap.size q2 L n k0 v g (c+1) m' (k+1):=by
 have hpl:=h0.lt
 have hl2:=h.Ml
 have hX2:=dK h.hq2
 have hs:=hch.size
 have hsw:=h.ch.size
 have Z6:w5.heap[q2]? = some (.cells #[.int .i32 m] 21 (0,0)):=by rw[hch.block q2 hX2 (by omega)];exact h.hq2
 have hsz:(w5.drew.setCell ⟨q2,0,none⟩ (.int .i32 m')).heap.size=w5.heap.size:=by simp[World.setCell]
 have tC:CI w5.drew p L (k+1) n v:=hci.drewN 1
 have mo:Ch w w5.drew p:=(h.ch.trans hch).trans (Ch.drewN p 1)
 subst h7
 refine⟨(h0.aL tC hl2).moved (ah (Below.refl _ _) _),(mo.aL hl2).xU (ah (Below.refl _ _) _),?_,?_,by omega,hl2,by omega,by have:=h.fc;omega,by have:=h.fc;omega,m0,m1,?_⟩
 · rw[←hsz];exact heap_alloc_new _ _
 · rw [Below.heap_alloc _ _ _ (by rw [hsz]; omega)]
   exact set1 (a:=.int .i32 m) (by exact Z6) _
 · rw[h.eq,he]
theorem IX (p k n:Nat) (L:Its) (v:Value) (w:World) (h:CI w p L k n v) (hsc:Sc L) :
 Calls Tryz.prog 228 #[.pointer (some ⟨p,0,none⟩)] w (wF (nm L k) p L n v w):=by
 have H:=Lib.hid h
 have HS:=Lib.hid hsc
 have hpl:=h.lt'
 have ng:∀(fn:Fn) (first cap:Array Value) (w:World),(Instr.makeFunc fn first cap).run Tryz.prog w=.ok (.func fn first cap) w:=fun _ _ _ _=>rfl
 clear h hsc
 go_enter Tryz.func228,Tryz.ntmps228
 go_wp2_with fail
 refine(take3 p k n L v _ H.out HS.out).mono ?_
 rintro e w1 (⟨ht,rfl,hci,hch⟩|⟨ht,rfl,hci,hch⟩)
 · have hnm : nm L k = num L 7 0 0 (k + 1) := by unfold nm; rw [if_pos ht]
   have HN:=Lib.hid hnm
   have H1:=Lib.hid (And.intro hci hch)
   clear hnm ht hci hch
   go_wp2_with fail
   obtain⟨W0,hW0⟩:∃W0,W0=(w1.alloc (.cells #[.int .i32 0] 21)).alloc (.cells #[.int .i64 0] 3):=⟨_,rfl⟩
   obtain⟨q2,hq2⟩:∃q2,q2=w1.heap.size:=⟨_,rfl⟩
   have hat:uJ w W0 p (q2+1) q2 L n (k+1) v 7 0 0 (k+1):=by
    have hb:Below w1.heap.size w1 W0:=by rw[hW0];exact ah (ah (Below.refl _ _) _) _
    have hs1:=H1.out.2.size
    refine⟨H1.out.1.moved hb,H1.out.2.xU hb,?_,?_,by omega,by omega,by omega,rfl,by omega,by omega,by omega,rfl⟩
    · rw [hW0, hq2]
      have:=heap_alloc_new (w1.alloc (.cells #[.int .i32 0] 21)) (.cells #[.int .i64 0] 3)
      simpa using this
    · rw [hW0, hq2, Below.heap_alloc _ _ _ (by simp)]
      exact heap_alloc_new w1 _
   have HAT:=Lib.hid hat
   rw[←hW0,←hq2]
   clear hat hW0 H1 hq2
   go_loopg [4,5] 7 (fun g s4 s5 wx=>∃(q c:Nat) (m:Int) (kk:Nat),s4=.pointer (some ⟨q,0,none⟩)∧uJ w wx p q q2 L n (k+1) v g c m kk)
   case atStart=>exact⟨_,_,_,_,rfl,HAT.out⟩
   case round=>
    obtain⟨q,c,m,kk,rfl,hat⟩:=hrel
    obtain⟨wo,rfl⟩:∃wo:World,wo=wr:=⟨_,rfl⟩
    have hfc:=hat.fc
    have hf1:=hat.f1
    obtain⟨g,rfl⟩:∃g,gk=g+1:=⟨gk-1,by omega⟩
    have HT:=Lib.hid hat
    obtain⟨c1,z1⟩:=aj hat.hq
    obtain⟨c2,z2⟩:=aj hat.hq2
    have hm0:=hat.m0
    have hm1:=hat.m1
    have bZ:(c:Int)≤7:=by omega
    clear hat HAT
    have DN : ∀ r, jr r → tq c m r = true → (0 ≤ dg r ∧ dg r ≤ 15 ∧ c < 6 ∧ m * 16 + dg r ≤ 1114111 ∧ 0 ≤ r ∧ r ≤ 1114111) := fun r hs h => by
     simp only[tq,Bool.and_eq_true,decide_eq_true_eq] at h
     have:=KJ r
     unfold jr at hs
     omega
    by_cases hend:c≠0∧pk L kk=125
    · obtain ⟨he1, he2⟩ := hend
      have t0:((c:Int) == 0)=false:=by simp;omega
      have t1:(pk L kk != 125)=false:=by simp[he2]
      by_cases hsu:55296≤m∧m<57344
      · have tF : nm L k = .error kk := by rw [HN.out, HT.out.eq]; simp only [num]; rw [if_pos ⟨he1, he2⟩, if_pos hsu]
        have HR:=Lib.hid tF
        have d1:decide ((55296:Int)≤m)=true:=by simpa using hsu.1
        have d2:decide (m<(57344:Int))=true:=by simpa using hsu.2
        clear tF hsu he2 DN
        go_wp2_with fail
        refine(l8 p kk n L v _ HT.out.ci).mono ?_
        rintro e w2 ⟨rfl,q9,rfl⟩
        go_wp2_with fail
        refine(oF p kk n L v _ (HT.out.ci.drewN q9)).mono ?_
        rintro e w2 ⟨rfl,q3,rfl⟩
        go_wp2
        exact⟨rfl,Ae HR.out (HT.out.ch.trans (Ch.drewN p _))⟩
      · have tF : nm L k = .ok (m, kk + 1) := by rw [HN.out, HT.out.eq]; simp only [num]; rw [if_pos ⟨he1, he2⟩, if_neg hsu]
        have HR:=Lib.hid tF
        have hkk:kk<L.length:=Bq (L:=L) (k:=kk) (by omega)
        have hsm:=HT.out.ci.small
        have hci:=HT.out.ci
        obtain⟨⟨d0,d1,d2⟩,f0,f1,f2⟩:=gD hci.hh
        have hpq:p≠q2:=by have:=HT.out.Ml;omega
        clear tF he2 DN
        by_cases hs1:55296≤m
        · have e1 : decide ((55296 : Int) ≤ m) = true := by simpa using hs1
          have e2:decide (m<(57344:Int))=false:=by simp;omega
          clear hsu
          go_wp2_with fail
          refine(l8 p kk n L v _ HT.out.ci).mono ?_
          rintro e w2 ⟨rfl,q9,rfl⟩
          go_wp2
          go_ret
          exact uI HR.out (by simpa using(HT.out.ci.drewN q9).at (k':=kk+1) (by omega)) ((HT.out.ch.trans (Ch.drewN p q9)).trans (Ch.set _ _ _ _))
        · have e1 : decide ((55296 : Int) ≤ m) = false := by simpa using hs1
          clear hsu
          go_wp2_with fail
          refine(l8 p kk n L v _ HT.out.ci).mono ?_
          rintro e w2 ⟨rfl,q9,rfl⟩
          go_wp2
          go_ret
          exact uI HR.out (by simpa using(HT.out.ci.drewN q9).at (k':=kk+1) (by omega)) ((HT.out.ch.trans (Ch.drewN p q9)).trans (Ch.set _ _ _ _))
    · by_cases hc0 : c = 0
      · have t0 : ((c : Int) == 0) = true := by simp; omega
        have HX:=HT
        clear hc0
        go_wp2_with fail
        refine(QL p kk n L v wo HX.out.ci HS.out q q2 c m (by omega) hm0 hm1 (Lib.hid ⟨HX.out.hq,HX.out.hq2⟩)).mono ?_
        rintro e w5 (⟨hy,rfl,tC,mo⟩|⟨hy,rfl,tC,mo⟩)
        · have hs : jr (pk L kk) := by rcases HS.out.pk kk with e | e; omega; exact e.2
          obtain⟨hd0,FJ,hc6,hmd,hr0,hr1⟩:=DN _ hs hy.2
          have hstep:num L (g+1) c m kk=num L g (c+1) (m*16+dg (pk L kk)) (kk+1):=by conv=>lhs;unfold num;rw[if_neg hend,if_pos hy]
          have hpl:=H.out.lt
          have FK:w5.heap[q]? = some (.cells #[.int .i64 c] 3 (0,0)):=by rw[mo.block q (dK HX.out.hq) (by have:=HX.out.lq;omega)];exact HX.out.hq
          have Af:w5.heap[q2]? = some (.cells #[.int .i32 m] 21 (0,0)):=by rw[mo.block q2 (dK HX.out.hq2) (by have:=HX.out.Ml;omega)];exact HX.out.hq2
          have hnext:=fun w7=>HX.out.next (w7:=w7) H.out hc6 (by omega) hmd tC mo hstep
          obtain⟨r,hr⟩:∃r,r=pk L kk:=⟨_,rfl⟩
          rw[←hr] at hd0 FJ hmd hr0 hr1 hnext ⊢
          have hdig:=fun w=>xW r w hr0 hr1
          obtain⟨d,hd⟩:∃d,d=dg r:=⟨_,rfl⟩
          rw[←hd] at hd0 FJ hmd hnext hdig
          have HD:=Lib.hid hdig
          have UG:=Lib.hid hnext
          have qR:q<w5.heap.size:=dK FK
          have OJ:q2<w5.heap.size:=dK Af
          have hne:=HX.out.ne
          obtain⟨y1,x1⟩:=aj FK
          obtain⟨y2,x2⟩:=aj Af
          have hw1:IntKind.i32.wrap (m*16)=m*16:=pF _ (by omega) (by omega)
          have hw2:IntKind.i32.wrap (m*16+d)=m*16+d:=pF _ (by omega) (by omega)
          have Y6:(c:Int)≤6:=by omega
          clear hr hd hy hs tC mo hnext hdig hstep FK Af c1 c2 z1 z2 hend DN
          go_wp2_with fail
          refine rT 5 (by kernel_rfl) (by kernel_rfl) ?_
          simp only[List.take_succ_cons,List.take_zero,List.drop_succ_cons,List.drop_zero]
          repeat (first|still_step|still_call ((HD.out _).mono (fun e w' h=>⟨h.1,h.2.symm⟩)))
          refine wpStill_nil ?_
          go_wp2_with fail
          go_roundg g
          case measure=>omega
          case rel=>exact⟨_,c+1,m*16+d,kk+1,rfl,UG.out _ rfl⟩
        · have tF : nm L k = .error kk := by rw [HN.out, HX.out.eq]; conv => lhs; unfold num; rw [if_neg hend, if_neg hy]
          have HR:=Lib.hid (And.intro tF (HX.out.ch.trans mo))
          clear tF hy hend DN tC mo
          go_wp2
          exact⟨rfl,Ae HR.out.1 HR.out.2⟩
      · have t0 : ((c : Int) == 0) = false := by simp; omega
        have t1:(pk L kk != 125)=true:=by simp;intro h;exact hend ⟨hc0,h⟩
        clear hc0
        go_wp2_with fail
        refine(l8 p kk n L v _ HT.out.ci).mono ?_
        rintro e w2 ⟨rfl,q9,rfl⟩
        have hX:=HT.out.drewN q9
        generalize wo.drewN q9=X at hX ⊢
        have HX:=Lib.hid hX
        clear hX HT c1 c2 z1 z2
        obtain⟨c1,z1⟩:=aj HX.out.hq
        obtain⟨c2,z2⟩:=aj HX.out.hq2
        go_wp2_with fail
        refine(QL p kk n L v X HX.out.ci HS.out q q2 c m (by omega) hm0 hm1 (Lib.hid ⟨HX.out.hq,HX.out.hq2⟩)).mono ?_
        rintro e w5 (⟨hy,rfl,tC,mo⟩|⟨hy,rfl,tC,mo⟩)
        · have hs : jr (pk L kk) := by rcases HS.out.pk kk with e | e; omega; exact e.2
          obtain⟨hd0,FJ,hc6,hmd,hr0,hr1⟩:=DN _ hs hy.2
          have hstep:num L (g+1) c m kk=num L g (c+1) (m*16+dg (pk L kk)) (kk+1):=by conv=>lhs;unfold num;rw[if_neg hend,if_pos hy]
          have hpl:=H.out.lt
          have FK:w5.heap[q]? = some (.cells #[.int .i64 c] 3 (0,0)):=by rw[mo.block q (dK HX.out.hq) (by have:=HX.out.lq;omega)];exact HX.out.hq
          have Af:w5.heap[q2]? = some (.cells #[.int .i32 m] 21 (0,0)):=by rw[mo.block q2 (dK HX.out.hq2) (by have:=HX.out.Ml;omega)];exact HX.out.hq2
          have hnext:=fun w7=>HX.out.next (w7:=w7) H.out hc6 (by omega) hmd tC mo hstep
          obtain⟨r,hr⟩:∃r,r=pk L kk:=⟨_,rfl⟩
          rw[←hr] at hd0 FJ hmd hr0 hr1 hnext ⊢
          have hdig:=fun w=>xW r w hr0 hr1
          obtain⟨d,hd⟩:∃d,d=dg r:=⟨_,rfl⟩
          rw[←hd] at hd0 FJ hmd hnext hdig
          have HD:=Lib.hid hdig
          have UG:=Lib.hid hnext
          have qR:q<w5.heap.size:=dK FK
          have OJ:q2<w5.heap.size:=dK Af
          have hne:=HX.out.ne
          obtain⟨y1,x1⟩:=aj FK
          obtain⟨y2,x2⟩:=aj Af
          have hw1:IntKind.i32.wrap (m*16)=m*16:=pF _ (by omega) (by omega)
          have hw2:IntKind.i32.wrap (m*16+d)=m*16+d:=pF _ (by omega) (by omega)
          have Y6:(c:Int)≤6:=by omega
          clear hr hd hy hs tC mo hnext hdig hstep FK Af c1 c2 z1 z2 hend DN
          go_wp2_with fail
          refine rT 5 (by kernel_rfl) (by kernel_rfl) ?_
          simp only[List.take_succ_cons,List.take_zero,List.drop_succ_cons,List.drop_zero]
          repeat (first|still_step|still_call ((HD.out _).mono (fun e w' h=>⟨h.1,h.2.symm⟩)))
          refine wpStill_nil ?_
          go_wp2_with fail
          go_roundg g
          case measure=>omega
          case rel=>exact⟨_,c+1,m*16+d,kk+1,rfl,UG.out _ rfl⟩
        · have tF : nm L k = .error kk := by rw [HN.out, HX.out.eq]; conv => lhs; unfold num; rw [if_neg hend, if_neg hy]
          have HR:=Lib.hid (And.intro tF (HX.out.ch.trans mo))
          clear tF hy hend DN tC mo
          go_wp2
          exact⟨rfl,Ae HR.out.1 HR.out.2⟩
 · have hnm : nm L k = .error k := by unfold nm; rw [if_neg ht]
   have HN:=Lib.hid hnm
   have H1:=Lib.hid hch
   clear hnm ht hci hch
   go_wp2
   exact⟨rfl,Ae HN.out H1.out⟩
theorem zF (p k n:Nat) (L:Its) (v:Value) (w:World) (h:CI w p L k n v) (hsc:Sc L) :
 Calls Tryz.prog 205 #[.pointer (some ⟨p,0,none⟩)] w (wF (lt L k) p L n v w):=by
 have H:=Lib.hid h
 have HS:=Lib.hid hsc
 clear h hsc
 go_enter Tryz.func205,Tryz.ntmps205
 go_wp2_with fail
 refine(take1 p k n L v _ H.out HS.out).mono ?_
 rintro e w1 (⟨ht,rfl,hci,hch⟩|⟨ht,rfl,hci,hch⟩)
 · have hc1 := HS.out.pk k
   by_cases lT:pk L k=92
   · have hlt : lt L k = esc L (k + 1) := by unfold lt; rw [if_pos ht, if_pos lT]
     have LQ:(pk L k != 92)=false:=by simp[lT]
     have HL:=Lib.hid (And.intro hlt (And.intro hci hch))
     clear hlt hci hch ht hc1 lT
     go_wp2_with fail
     refine(take2 p (k+1) n L v _ HL.out.2.1 HS.out).mono ?_
     rintro e w2 (⟨ht2,rfl,rA,wG⟩|⟨ht2,rfl,rA,wG⟩)
     · have lu := HL.out.2.2.trans wG
       by_cases a1:pk L (k+1)=110
       · have hr : lt L k = .ok (10, k + 2) := by rw [HL.out.1]; unfold esc; rw [if_pos ht2, if_pos a1]
         have HR:=Lib.hid (And.intro hr (And.intro rA lu))
         have b1:(pk L (k+1) == 110)=true:=by simp[a1]
         clear hr rA lu wG a1 ht2
         go_wp2
         go_ret
         exact uI HR.out.1 HR.out.2.1 HR.out.2.2
       by_cases a2:pk L (k+1)=114
       · have hr : lt L k = .ok (13, k + 2) := by rw [HL.out.1]; unfold esc; rw [if_pos ht2, if_neg a1, if_pos a2]
         have HR:=Lib.hid (And.intro hr (And.intro rA lu))
         have b1:(pk L (k+1) == 110)=false:=by simpa using a1
         have b2:(pk L (k+1) == 114)=true:=by simp[a2]
         clear hr rA lu wG a1 a2 ht2
         go_wp2
         go_ret
         exact uI HR.out.1 HR.out.2.1 HR.out.2.2
       by_cases a3:pk L (k+1)=116
       · have hr : lt L k = .ok (9, k + 2) := by rw [HL.out.1]; unfold esc; rw [if_pos ht2, if_neg a1, if_neg a2, if_pos a3]
         have HR:=Lib.hid (And.intro hr (And.intro rA lu))
         have b1:(pk L (k+1) == 110)=false:=by simpa using a1
         have b2:(pk L (k+1) == 114)=false:=by simpa using a2
         have b3:(pk L (k+1) == 116)=true:=by simp[a3]
         clear hr rA lu wG a1 a2 a3 ht2
         go_wp2
         go_ret
         exact uI HR.out.1 HR.out.2.1 HR.out.2.2
       have b1:(pk L (k+1) == 110)=false:=by simpa using a1
       have b2:(pk L (k+1) == 114)=false:=by simpa using a2
       have b3:(pk L (k+1) == 116)=false:=by simpa using a3
       by_cases a4:pk L (k+1)=117
       · have hr : lt L k = nm L (k + 2) := by rw [HL.out.1]; unfold esc nm; rw [if_pos ht2, if_neg a1, if_neg a2, if_neg a3, if_pos a4]
         have HR:=Lib.hid (And.intro hr (And.intro rA lu))
         have b4:(pk L (k+1) == 117)=true:=by simp[a4]
         clear hr rA lu wG a1 a2 a3 a4 ht2
         go_wp2_with fail
         refine(IX p (k+2) n L v _ HR.out.2.1 HS.out).mono ?_
         intro e w3 hpost
         rw[←HR.out.1] at hpost
         unfold wF at hpost
         cases hx:lt L k with
         | ok y =>
          rw[hx] at hpost
          obtain⟨rfl,xX,FL⟩:=hpost
          have HZ:=Lib.hid (And.intro hx (And.intro xX (HR.out.2.2.trans FL)))
          clear hx xX FL
          go_wp2
          go_ret
          exact uI HZ.out.1 HZ.out.2.1 HZ.out.2.2
         | error j =>
          rw[hx] at hpost
          obtain⟨rfl,FL⟩:=hpost
          have HZ:=Lib.hid (And.intro hx (HR.out.2.2.trans FL))
          clear hx FL
          go_wp2
          exact⟨rfl,Ae rfl HZ.out.2⟩
       · have hr : lt L k = .ok (pk L (k + 1), k + 2) := by rw [HL.out.1]; unfold esc; rw [if_pos ht2, if_neg a1, if_neg a2, if_neg a3, if_neg a4]
         have HR:=Lib.hid (And.intro hr (And.intro rA lu))
         have b4:(pk L (k+1) == 117)=false:=by simpa using a4
         clear hr rA lu wG a1 a2 a3 a4 ht2
         go_wp2
         go_ret
         exact uI HR.out.1 HR.out.2.1 HR.out.2.2
     · have hr : lt L k = .error (k + 1) := by rw [HL.out.1]; unfold esc; rw [if_neg ht2]
       have HR:=Lib.hid (And.intro hr (HL.out.2.2.trans wG))
       clear hr rA wG ht2
       go_wp2
       exact⟨rfl,Ae HR.out.1 HR.out.2⟩
   · have hlt : lt L k = .ok (pk L k, k + 1) := by unfold lt; rw [if_pos ht, if_neg lT]
     have LQ:(pk L k != 92)=true:=by simpa using lT
     have HL:=Lib.hid (And.intro hlt (And.intro hci hch))
     clear hlt hci hch ht hc1 lT
     go_wp2
     go_ret
     exact uI HL.out.1 HL.out.2.1 HL.out.2.2
 · have hlt : lt L k = .error k := by unfold lt; rw [if_neg ht]
   have HL:=Lib.hid (And.intro hlt hch)
   clear hlt hci hch ht
   go_wp2
   exact⟨rfl,Ae HL.out.1 HL.out.2⟩
def jl (p:Nat) (L:Its) (k n:Nat) (v:Value) (w:World) (e:Ending) (w':World):Prop:=
 match kU L k with
 | .ok (q,k')=>e=.returned (.agg #[.int .i32 q.1,.int .i32 q.2])∧CI w' p L k' n v∧Ch w w' p
 | .error j=>e=xA 3 (aA L n j)∧Ch w w' p
theorem FM {p k n j:Nat} {L:Its} {v:Value} {w w':World} (h:kU L k=.error j) (hc:Ch w w' p):jl p L k n v w (xA 3 (aA L n j)) w':=by
 unfold jl;rw[h];exact⟨rfl,hc⟩
theorem JD {p k n k':Nat} {L:Its} {v:Value} {w w':World} {a b:Int} (h:kU L k=.ok ((a,b),k')) (hi:CI w' p L k' n v) (hc:Ch w w' p):jl p L k n v w (.returned (.agg #[.int .i32 a,.int .i32 b])) w':=by
 unfold jl;rw[h];exact⟨rfl,hi,hc⟩
theorem wF.cases {x:Except Nat (Int×Nat)} {p n:Nat} {L:Its} {v:Value} {w w':World} {e:Ending} (h:wF x p L n v w e w') :
 (∃r k',x=.ok (r,k')∧e=.returned (.int .i32 r)∧CI w' p L k' n v∧Ch w w' p)∨(∃j,x=.error j∧e=xA 3 (aA L n j)∧Ch w w' p):=by
 cases x with
 | ok y=>exact .inl ⟨y.1,y.2,rfl,h⟩
 | error j=>exact .inr ⟨j,rfl,h⟩
theorem iM (p k n:Nat) (L:Its) (v:Value) (w:World) (h:CI w p L k n v) (hsc:Sc L) :
 Calls Tryz.prog 197 #[.pointer (some ⟨p,0,none⟩)] w (jl p L k n v w):=by
 have H:=Lib.hid h
 have hlt:=h.lt
 have nk:=Lib.hid hsc
 have hA:=h.moved (ah (Below.refl _ _) (.cells #[.int .i32 0,.int .i32 0] 79))
 have HA:=Lib.hid hA
 clear h hsc hA
 have hpe:¬p=w.heap.size:=by omega
 go_enter Tryz.func197,Tryz.ntmps197
 go_wp2_with fail
 refine(zF p k n L v _ HA.out nk.out).mono ?_
 intro e w1 hpost
 rcases hpost.cases with⟨a,k1,ht,rfl,hci,hch⟩|⟨j,ht,rfl,hch⟩
 · have hlo := EF nk.out ht
   have hE1:w1.heap[w.heap.size]? = some (.cells #[.int .i32 0,.int .i32 0] 79 (0,0)):=by rw[hch.block _ (by simp) (fun e=>hpe e.symm)];exact heap_alloc_new w _
   have hs1:w.heap.size<w1.heap.size:=by have:=hch.size;simp at this;omega
   have KN:Ch w w1 p:=(Ch.new w _ p).trans hch
   have H1:=Lib.hid (And.intro ht (And.intro hci (And.intro KN hE1)))
   clear hpost ht hci hch KN hE1
   go_wp2_with fail
   refine(l8 p k1 n L v _ H1.out.2.1).mono ?_
   rintro e w2 ⟨rfl,q,rfl⟩
   obtain⟨⟨c0,c1⟩,f0,f1⟩:=DR H1.out.2.2.2
   by_cases h45:pk L k1=45
   · have t45 : (pk L k1 != 45) = false := by simp [h45]
     have HB:=Lib.hid h45
     obtain⟨⟨d0,d1,d2⟩,g0,g1,g2⟩:=gD H1.out.2.1.hh
     have hsm:=H1.out.2.1.small
     have hk2:k1+1≤L.length:=Bq (L:=L) (k:=k1) (by omega)
     clear h45
     have hat:=(H1.out.2.1.drewN q).at (k':=k1+1) hk2
     have hca:Ch w ((w1.drewN q).setCell ⟨p,1,none⟩ (.int .i64 ((k1+1:Nat):Int))) p:=(H1.out.2.2.1.trans (Ch.drewN p q)).trans (Ch.set _ _ _ _)
     have hEa:((w1.drewN q).setCell ⟨p,1,none⟩ (.int .i64 ((k1+1:Nat):Int))).heap[w.heap.size]? = some (.cells #[.int .i32 0,.int .i32 0] 79 (0,0)):=by
      rw[Below.heap_setCell _ _ _ _ (by simp;omega)];exact H1.out.2.2.2
     go_wp2_with fail
     have ecast:(k1:Int)+1=((k1+1:Nat):Int):=by omega
     simp only[ecast]
     clear ecast
     obtain⟨W2,hW2⟩:∃W2,W2=(w1.drewN q).setCell ⟨p,1,none⟩ (.int .i64 ((k1+1:Nat):Int)):=⟨_,rfl⟩
     rw[←hW2] at hat hca hEa ⊢
     have hs2:w.heap.size<W2.heap.size:=by rw[hW2];simpa [World.setCell,World.drewN] using hs1
     clear hW2 c0 c1 f0 f1 d0 d1 d2 g0 g1 g2
     refine(zF p (k1+1) n L v _ hat nk.out).mono ?_
     intro e w3 hpost
     rcases hpost.cases with⟨b,k2,ht3,rfl,xX,lu⟩|⟨j,ht3,rfl,lu⟩
     · have hlo3 := EF nk.out ht3
       have JE:w3.heap[w.heap.size]? = some (.cells #[.int .i32 0,.int .i32 0] 79 (0,0)):=by rw[lu.block _ hs2 (fun e=>hpe e.symm)];exact hEa
       have hs3:w.heap.size<w3.heap.size:=by have:=lu.size;omega
       have hc3:Ch w w3 p:=hca.trans lu
       obtain⟨⟨c0,c1⟩,f0,f1⟩:=DR JE
       by_cases UH:b<a
       · have hel : kU L k = .error (k1 + 1) := by unfold kU; simp only [H1.out.1, if_pos HB.out, ht3, if_pos UH]
         have HE:=Lib.hid hel
         have UJ:=xX.at (k':=k1+1) hk2
         obtain⟨⟨d0,d1,d2⟩,g0,g1,g2⟩:=gD xX.hh
         have H4:=Lib.hid (And.intro UJ (hc3.trans (Ch.set w3 p 1 (.int .i64 ((k1+1:Nat):Int)))))
         clear hel ht3 xX lu hc3 JE hat hca hEa UJ hpost
         go_wp2_with fail
         refine(oF p (k1+1) n L v _ H4.out.1).mono ?_
         rintro e w4 ⟨rfl,q2,rfl⟩
         go_wp2
         exact⟨rfl,FM HE.out (H4.out.2.trans (Ch.drewN p q2))⟩
       · have hel : kU L k = .ok ((a, b), k2) := by unfold kU; simp only [H1.out.1, if_pos HB.out, ht3, if_neg UH]
         have HE:=Lib.hid hel
         have H4:=Lib.hid (And.intro xX hc3)
         clear hel ht3 xX lu hc3 JE hat hca hEa hpost
         go_wp2
         refine bodyPost_ret (v:=.agg #[.int .i32 a,.int .i32 b]) (by simp[results,Tryz.results197,go_sem,c0,c1,f0,f1,hs3]) rfl (JD HE.out ?_ ?_)
         · exact H.out.aL (H.out.aL H4.out.1 (Nat.le_refl _)) (Nat.le_refl _)
         · exact(H4.out.2.aL (Nat.le_refl _)).aL (Nat.le_refl _)
     · have hel : kU L k = .error j := by unfold kU; simp only [H1.out.1, if_pos HB.out, ht3]
       have HE:=Lib.hid hel
       have hc3:Ch w w3 p:=hca.trans lu
       clear hel ht3 lu hat hca hEa hpost
       go_wp2
       exact⟨rfl,FM HE.out hc3⟩
   · have t45 : (pk L k1 != 45) = true := by simpa using h45
     have hel:kU L k=.ok ((a,a),k1):=by unfold kU;simp only[H1.out.1,if_neg h45]
     have HE:=Lib.hid hel
     clear h45 hel
     go_wp2
     refine bodyPost_ret (v:=.agg #[.int .i32 a,.int .i32 a]) (by simp[results,Tryz.results197,go_sem,c0,c1,f0,f1,hs1]) rfl (JD HE.out ?_ ?_)
     · exact H.out.aL (H.out.aL (H1.out.2.1.drewN q) (Nat.le_refl _)) (Nat.le_refl _)
     · exact((H1.out.2.2.1.trans (Ch.drewN p q)).aL (Nat.le_refl _)).aL (Nat.le_refl _)
 · have hel : kU L k = .error j := by unfold kU; simp only [ht]
   have HE:=Lib.hid hel
   have KN:Ch w w1 p:=(Ch.new w _ p).trans hch
   clear ht hel hch hpost
   go_wp2
   exact⟨rfl,FM HE.out KN⟩
end Go.Proofs.YtfkmajjgkdjncaaGreatDoor

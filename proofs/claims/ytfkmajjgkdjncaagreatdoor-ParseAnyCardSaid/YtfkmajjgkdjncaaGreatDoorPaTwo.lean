/- Merged. -/
import Derived.Test.YtfkmajjgkdjncaaGreatDoorPaGet
import Derived.Test.YtfkmajjgkdjncaaGreatDoorClsFull
set_option linter.unusedVariables false
set_option linter.unusedSimpArgs false
set_option maxHeartbeats 4000000
set_option maxRecDepth 100000
namespace Go.Proofs.YtfkmajjgkdjncaaGreatDoor
open Go.RowKit De Wd
theorem fI {L:Its} {k:Nat} {c:Int} (h:pk L k=c) (hc:0≤c):k<L.length:=by
 rcases Nat.lt_or_ge k L.length with h1|h1
 · exact h1
 · rw[pq (by omega)] at h;omega
theorem iA (p k d:Nat) (r:Int) (s:ByteArray) (L:Its) (v:Value) (w:World) (h:XI w p s L k d v) (h0:0≤r) :
 Calls Tryz.prog 70 #[.pointer (some ⟨p,0,none⟩),.int .i32 r] w fun e w'=>e=.returned (.bool (decide (pk L k=r)))∧Ch w w' p∧XI w' p s L (if pk L k=r then k+1 else k) d v:=by
 obtain⟨⟨c0,c1,c2,c3⟩,f0,f1,f2,f3⟩:=aJ h.hh
 have hsm:=h.small
 by_cases hr:pk L k=r
 · have hk := fI hr h0
   have t1:(pk L k != r)=false:=by simp[hr]
   have H:=Lib.hid h
   have HR:=Lib.hid hr
   clear h hr
   go_enter Tryz.func70,Tryz.ntmps70
   go_wp2_with fail
   refine(bf p k k d s L v _ H.out).mono ?_
   rintro e w1 ⟨rfl,rfl⟩
   go_wp2_with fail
   have ecast:(k:Int)+1=((k+1:Nat):Int):=by omega
   simp only[ecast]
   go_ret
   refine⟨?_,Ch.set _ _ _ _,?_⟩
   · first|rfl|(rw[decide_eq_true HR.out];rfl)
   · first|exact H.out.at (by omega)|(rw[if_pos HR.out];exact H.out.at (by omega))
 · have t1 : (pk L k != r) = true := by simpa using hr
   have H:=Lib.hid h
   have HR:=Lib.hid hr
   clear h hr
   go_enter Tryz.func70,Tryz.ntmps70
   go_wp2_with fail
   refine(bf p k k d s L v _ H.out).mono ?_
   rintro e w1 ⟨rfl,rfl⟩
   go_wp2_with fail
   go_ret
   refine⟨?_,Ch.refl _ _,?_⟩
   · first|rfl|(rw[decide_eq_false HR.out];rfl)
   · first|exact H.out|(rw[if_neg HR.out];exact H.out)
namespace Pm
theorem Ui:∀n:Nat,n<128→decide (0≤Lib.indexByte [47,124,42,40,41,91,93,92,46] n.toUInt8)=decide ((n:Int)∈zA):=by decide +kernel
theorem Uj:∀n:Nat,n<128→decide (0≤Lib.indexByte [40,91,92,46] n.toUInt8)=decide ((n:Int)∈vJ):=by decide +kernel
end Pm
theorem Aa (r:Int) (w:World) (h0:0≤r) (h1:r<128) :
 Calls Tryz.prog 138 #[.string ⟨#[47,124,42,40,41,91,93,92,46]⟩,.int .i32 r] w fun e w'=>e=.returned (.bool (decide (r∈Pm.zA)))∧w=w':=by
 have hx:=Pm.Ui r.toNat (by omega)
 have er:((r.toNat:Nat):Int)=r:=by omega
 rw[er] at hx
 have hc:=fun w=>lU ⟨#[47,124,42,40,41,91,93,92,46]⟩ r w h0 h1
 have e2:(⟨#[47,124,42,40,41,91,93,92,46]⟩:ByteArray).data.toList=[47,124,42,40,41,91,93,92,46]:=rfl
 rw[e2] at hc
 obtain⟨ix,hix⟩:∃ix,ix=Lib.indexByte [47,124,42,40,41,91,93,92,46] r.toNat.toUInt8:=⟨_,rfl⟩
 rw[←hix] at hx hc
 have HC:=Lib.hid hc
 have HX:=Lib.hid hx
 clear hc hx hix e2 er
 go_enter Tryz.func138,Tryz.ntmps138
 go_wp2_with fail
 refine(HC.out _).mono ?_
 rintro e w' ⟨rfl,rfl⟩
 go_wp2
 go_ret
 exact⟨by rw[←HX.out];rfl,rfl⟩
theorem Ab (r:Int) (w:World) (h0:0≤r) (h1:r<128) :
 Calls Tryz.prog 138 #[.string ⟨#[40,91,92,46]⟩,.int .i32 r] w fun e w'=>e=.returned (.bool (decide (r∈Pm.vJ)))∧w=w':=by
 have hx:=Pm.Uj r.toNat (by omega)
 have er:((r.toNat:Nat):Int)=r:=by omega
 rw[er] at hx
 have hc:=fun w=>lU ⟨#[40,91,92,46]⟩ r w h0 h1
 have e2:(⟨#[40,91,92,46]⟩:ByteArray).data.toList=[40,91,92,46]:=rfl
 rw[e2] at hc
 obtain⟨ix,hix⟩:∃ix,ix=Lib.indexByte [40,91,92,46] r.toNat.toUInt8:=⟨_,rfl⟩
 rw[←hix] at hx hc
 have HC:=Lib.hid hc
 have HX:=Lib.hid hx
 clear hc hx hix e2 er
 go_enter Tryz.func138,Tryz.ntmps138
 go_wp2_with fail
 refine(HC.out _).mono ?_
 rintro e w' ⟨rfl,rfl⟩
 go_wp2
 go_ret
 exact⟨by rw[←HX.out];rfl,rfl⟩
theorem Xo:Asc ⟨#[47,124,42,40,41,91,93,92,46]⟩:=⟨by decide,by decide⟩
theorem Dy {r:Int} (h:r∈Pm.zA):r<128:=by simp[Pm.zA] at h;omega
theorem Bh (r:Int) (w:World) (h0:32≤r) (hr:jr r) :
 Calls Tryz.prog 138 #[.string ⟨#[47,124,42,40,41,91,93,92,46]⟩,.int .i32 r] w fun e w'=>e=.returned (.bool (decide (r∈Pm.zA)))∧Below w.heap.size w w':=by
 by_cases h:r<128
 · refine (Aa r w (by omega) h).mono ?_
   rintro e w' ⟨rfl,rfl⟩
   exact⟨rfl,Below.refl _ _⟩
 · refine (sU _ r w Xo (by omega) (xR hr)).mono ?_
   rintro e w' ⟨rfl,hb⟩
   exact⟨by rw[decide_eq_false (fun h9=>h (Dy h9))],hb⟩
theorem iI (p k d:Nat) (s:ByteArray) (L:Its) (v:Value) (w:World) (h:XI w p s L k d v) (h1:Sc L) :
 Calls Tryz.prog 110 #[.pointer (some ⟨p,0,none⟩)] w fun e w'=>e=.returned (.bool (Pm.eG (pk L k)))∧Below w.heap.size w w':=by
 obtain⟨⟨c0,c1,c2,c3⟩,f0,f1,f2,f3⟩:=aJ h.hh
 have hg:=bf p k k d s L v w h
 have hsc:=h1.pk k
 obtain⟨r,hr⟩:∃r,r=pk L k:=⟨_,rfl⟩
 rw[←hr] at hg hsc ⊢
 by_cases h32:32≤r
 · have hsc2 : jr r := by
    rcases hsc with h9|⟨_,h9⟩
    · omega
    · exact h9
   have hn:=fun w=>Bh r w h32 hsc2
   obtain⟨b1,hb1⟩:∃b,b=decide (r∈Pm.zA):=⟨_,rfl⟩
   obtain⟨b2,hb2⟩:∃b,b=decide (r∈Pm.vJ):=⟨_,rfl⟩
   have HA:=Lib.hid (show Pm.eG r=(!b1 || b2) by unfold Pm.eG;rw[hb1,hb2];simp[h32])
   rw[←hb1] at hn
   have HG:=Lib.hid hg
   have HN:=Lib.hid hn
   have t1:decide (32≤r)=true:=by simp[h32]
   clear h hg hn hr hsc
   cases b1 with
   | false =>
    clear hb1 hb2
    go_enter Tryz.func110,Tryz.ntmps110
    go_wp2_with fail
    refine HG.out.mono ?_
    rintro e w1 ⟨rfl,rfl⟩
    go_wp2_with fail
    refine(HN.out _).mono ?_
    rintro e w2 ⟨rfl,hbel⟩
    go_wp2_with fail
    go_ret
    exact⟨by rw[HA.out];rfl,hbel⟩
   | true =>
    have HI := Lib.hid (fun w => show Calls Tryz.prog 138 #[.string ⟨#[40, 91, 92, 46]⟩, .int .i32 r] w fun e w' => e = .returned (.bool b2) ∧ w = w' by
     rw[hb2]
     exact Ab r w (by omega) (Dy (of_decide_eq_true hb1.symm)))
    clear hb1 hb2
    go_enter Tryz.func110,Tryz.ntmps110
    go_wp2_with fail
    refine HG.out.mono ?_
    rintro e w1 ⟨rfl,rfl⟩
    go_wp2_with fail
    refine(HN.out _).mono ?_
    rintro e w2 ⟨rfl,hbel⟩
    go_wp2_with fail
    refine(HI.out _).mono ?_
    rintro e w3 ⟨rfl,rfl⟩
    go_wp2_with fail
    go_ret
    exact⟨by rw[HA.out];rfl,hbel⟩
 · have HA := Lib.hid (show Pm.eG r = false by unfold Pm.eG; simp [h32])
   have HG:=Lib.hid hg
   have t1:decide (32≤r)=false:=by simpa using h32
   clear h hg hr
   go_enter Tryz.func110,Tryz.ntmps110
   go_wp2_with fail
   refine HG.out.mono ?_
   rintro e w1 ⟨rfl,rfl⟩
   go_wp2_with fail
   go_ret
   exact⟨by rw[HA.out];rfl,Below.refl _ _⟩
theorem ay {w:World} {p:Nat} {a b c:Value} {t:TypeId} (h:w.heap[p]? = some (.cells #[a,b,c] t (0,0))):(w.cell? ⟨p,0,none⟩=some a∧w.cell? ⟨p,1,none⟩=some b∧w.cell? ⟨p,2,none⟩=some c)∧w.frozen? ⟨p,0,none⟩=false∧w.frozen? ⟨p,1,none⟩=false∧w.frozen? ⟨p,2,none⟩=false:=by
 simp[World.cell?,World.frozen?,h]
theorem Ch.aN {w w1:World} {p b i:Nat} {x:Value} (h:Ch w w1 p) (hb:w.heap.size≤b):Ch w (w1.setCell ⟨b,i,none⟩ x) p:=
 ⟨h.os,h.tape,h.output,by have:=h.size;simpa [World.setCell] using this,fun k hk hp=>by rw[Below.heap_setCell _ _ _ _ (show k≠(⟨b,i,none⟩:Addr).block by show k≠b;omega)];exact h.block k hk hp⟩
theorem XI.aL {w w':World} {p E i k d k0 d0:Nat} {s:ByteArray} {L:Its} {v x:Value} (h0:XI w p s L k0 d0 v) (h:XI w' p s L k d v) (hE:w.heap.size≤E):XI (w'.setCell ⟨E,i,none⟩ x) p s L k d v:=by
 have hp:=h0.lt
 refine⟨?_,?_,h.far,h.le,h.small⟩
 · rw[Below.heap_setCell _ _ _ _ (by simp;omega)];exact h.hh
 · obtain ⟨o, cap, rfl, h1, h2, h3⟩ := h.row
   obtain⟨o',cap',e,_,_,h3'⟩:=h0.row
   simp only[Value.slice.injEq,true_and] at e
   obtain⟨rfl,rfl⟩:=e
   refine⟨o,cap,rfl,h1,h2,?_⟩
   rcases h3 with h3|⟨b,off,rfl,hb,hc⟩
   · exact .inl h3
   · rcases h3' with h3' | ⟨b', off', e, hb', _⟩
     · exact .inl ⟨h3'.1,fun e=>by cases e⟩
     · simp only [Option.some.injEq, Addr.mk.injEq, and_true] at e
       obtain⟨rfl,rfl⟩:=e
       refine .inr ⟨b,off,rfl,by simpa [World.setCell] using hb,fun j u hu=>?_⟩
       rw[←hc j u hu]
       unfold World.cell?
       rw[Below.heap_setCell _ _ _ _ (by simp;omega)]
inductive vC (L:Its):RE→Nat→RE→Nat→Prop
 | stop {k:Nat} {a:RE} (h:pk L k≠42):vC L a k a k
 | go {k k2:Nat} {a e:RE} (h:pk L k=42) (r:vC L (.mk 5 [] [a]) (k+1) e k2):vC L a k e k2
theorem lt_of_some {w:World} {b:Nat} {o:Obj} (h:w.heap[b]? = some o):b<w.heap.size:=by
 rcases Nat.lt_or_ge b w.heap.size with h1|h1
 · exact h1
 · rw[Array.getElem?_eq_none h1] at h;cases h
theorem vC.inv {L:Its} {a e:RE} {k k2:Nat} (h:vC L a k e k2):(pk L k≠42∧a=e∧k=k2)∨(pk L k=42∧vC L (.mk 5 [] [a]) (k+1) e k2):=by
 cases h with
 | stop h=>exact .inl ⟨h,rfl,rfl⟩
 | go h r=>exact .inr ⟨h,r⟩
structure qQ (w wx:World) (p b r:Nat) (s:ByteArray) (L:Its) (d k:Nat) (v:Value) (a:RE) (sv lv:Value):Prop where
 x:XI wx p s L k d v
 c:Ch w wx p
 hb:wx.heap[b]? = some (.cells #[.int .i64 a.kind,sv,lv] 35 (0,0))
 hr:∃c0 c1 c2,wx.heap[r]? = some (.cells #[c0,c1,c2] 35 (0,0))
 kp:KP (fun j=>r<j∧j≠b) wx (fun w2=>bI w2 a sv lv)
theorem E5 (p k d k1 k2:Nat) (s:ByteArray) (L:Its) (v:Value) (a e:RE) (w:World) (h:XI w p s L k d v) (hl:vC L a k1 e k2)
 (hat:∀w,XI w p s L k d v→Calls Tryz.prog 139 #[.pointer (some ⟨p,0,none⟩)] w fun x w'=>jv w w' a x∧Ch w w' p∧XI w' p s L k1 d v) :
 Calls Tryz.prog 111 #[.pointer (some ⟨p,0,none⟩)] w fun x w'=>jv w w' e x∧Ch w w' p∧XI w' p s L k2 d v:=by
 have hlt:=h.lt
 have hA:=h.moved (ah (Below.refl _ _) (.cells #[.int .i64 0,.slice none 0 0,.slice none 0 0] 35))
 have HX:=Lib.hid h
 have HA:=Lib.hid hA
 have HT:=Lib.hid hat
 have HL:=Lib.hid hl
 clear h hA hat hl
 go_enter Tryz.func111,Tryz.ntmps111
 go_wp2_with fail
 refine(HT.out _ HA.out).mono ?_
 rintro x w1 ⟨⟨sv,lv,rfl,hkp⟩,hch,hxi⟩
 obtain⟨⟨o1,q1,rfl⟩,⟨o2,q2,rfl⟩⟩:=hkp.here.form
 have hs1:w.heap.size<w1.heap.size:=by have:=hch.size;simp at this;omega
 have hr1:w1.heap[w.heap.size]? = some (.cells #[.int .i64 0,.slice none 0 0,.slice none 0 0] 35 (0,0)):=by rw[hch.block _ (by simp) (by omega)];exact heap_alloc_new w _
 have hpb:p≠w1.heap.size:=by omega
 have gT:=hxi.moved (ah (Below.refl _ _) (.cells #[.int .i64 a.kind,.slice o1 a.set.length q1,.slice o2 a.parts.length q2] 35))
 have hpi:qQ w (w1.alloc (.cells #[.int .i64 a.kind,.slice o1 a.set.length q1,.slice o2 a.parts.length q2] 35)) p w1.heap.size w.heap.size s L d k1 v a (.slice o1 a.set.length q1) (.slice o2 a.parts.length q2):=by
  refine⟨gT,?_,heap_alloc_new w1 _,⟨.int .i64 0,.slice none 0 0,.slice none 0 0,?_⟩,?_⟩
  · exact((Ch.of (ah (Below.refl _ _) _)).trans hch).trans (Ch.of (ah (Below.refl _ _) _))
  · rw[(ah (Below.refl w1.heap.size w1) _).block _ hs1];exact hr1
  · intro w' hag
    refine hkp w' ⟨hag.os,hag.tape,hag.output,by have:=hag.size;simp at this;omega,fun j hj hS=>?_⟩
    have hS':w.heap.size+1≤j:=by simpa using hS
    rw[hag.block j (by simp;omega) ⟨by omega,by omega⟩]
    exact(ah (Below.refl w1.heap.size w1) _).block j hj
 have oW:=Lib.hid hpi
 have hle:=hxi.le
 clear hpi gT hxi hch hkp hr1
 go_wp2_with fail
 go_loopg [] (L.length-k1) (fun g wx=>∃(a':RE) (ki:Nat) (o3 o4:Option Addr) (q3 q4:Nat),ki+g=L.length∧qQ w wx p w1.heap.size w.heap.size s L d ki v a' (.slice o3 a'.set.length q3) (.slice o4 a'.parts.length q4)∧vC L a' ki e k2)
 case atStart=>exact⟨a,k1,_,_,_,_,by omega,oW.out,HL.out⟩
 case round=>
  obtain⟨a',ki,o3,o4,q3,q4,hkg,hpi,hpo⟩:=hrel
  have HP:=Lib.hid hpi
  obtain⟨⟨c0,c1,c2⟩,f0,f1,f2⟩:=ay hpi.hb
  clear hpi
  rcases hpo.inv with⟨Fg,rfl,rfl⟩|⟨Fg,gU⟩
  · have HN := Lib.hid Fg
    clear hpo Fg
    go_wp2_with fail
    refine(iA p ki d 42 s L v _ HP.out.x (by decide)).mono ?_
    rintro x w2 ⟨rfl,hc2,hx2⟩
    rw[if_neg HN.out] at hx2
    have hb2:=(hc2.block _ (lt_of_some HP.out.hb) (fun e=>hpb e.symm)).trans HP.out.hb
    obtain⟨z0,z1,z2,hz⟩:=HP.out.hr
    have hr2:=(hc2.block _ (lt_of_some hz) (by omega)).trans hz
    have hbr:¬w1.heap.size=w.heap.size:=by omega
    obtain⟨⟨d0,d1,d2⟩,g0,g1,g2⟩:=ay hb2
    obtain⟨⟨r0,r1,r2⟩,x0,x1,x2⟩:=ay hr2
    have bM:=HP.out.kp.to (hc2.ag.sub (fun j _ hj=>by omega))
    have HK:=Lib.hid bM
    have HC:=Lib.hid (HP.out.c.trans hc2)
    have fD:=Lib.hid hx2
    rw[decide_eq_false HN.out]
    clear c0 c1 c2 f0 f1 f2 hb2 hz bM hc2 hx2 HP
    have HR2:=Lib.hid hr2
    clear hr2
    go_wp2_with fail
    obtain⟨W9,hW⟩:∃W9,W9=((w2.setCell ⟨w.heap.size,0,none⟩ (.int .i64 a'.kind)).setCell ⟨w.heap.size,1,none⟩ (.slice o3 a'.set.length q3)).setCell ⟨w.heap.size,2,none⟩ (.slice o4 a'.parts.length q4):=⟨_,rfl⟩
    have h9:W9.heap[w.heap.size]? = some (.cells #[.int .i64 a'.kind,.slice o3 a'.set.length q3,.slice o4 a'.parts.length q4] 35 (0,0)):=by
     rw[hW];have:=HR2.out;simp[World.setCell,Array.getElem?_modify,this]
    have hag : Ag (fun j => w.heap.size < j ∧ j ≠ w1.heap.size) w2 W9 := by
     rw[hW]
     exact(((Ag.refl _ _).setCell (fun h=>Nat.lt_irrefl _ h.1) _).setCell (fun h=>Nat.lt_irrefl _ h.1) _).setCell (fun h=>Nat.lt_irrefl _ h.1) _
    have bZ:Ch w W9 p:=by rw[hW];exact((HC.out.aN (Nat.le_refl _)).aN (Nat.le_refl _)).aN (Nat.le_refl _)
    have eu:XI W9 p s L ki d v:=by rw[hW];exact HX.out.aL (HX.out.aL (HX.out.aL fD.out (Nat.le_refl _)) (Nat.le_refl _)) (Nat.le_refl _)
    rw[←hW]
    clear hW r0 r1 r2 x0 x1 x2 d0 d1 d2 g0 g1 g2
    obtain⟨⟨d0,d1,d2⟩,g0,g1,g2⟩:=ay h9
    refine bodyPost_ret (v:=.agg #[.int .i64 a'.kind,.slice o3 a'.set.length q3,.slice o4 a'.parts.length q4]) (by simp[results,Tryz.results111,go_sem,d0,d1,d2,g0,g1,g2]) rfl ?_
    exact⟨⟨_,_,rfl,(HK.out.to hag).sub (fun j _ hj=>Nat.le_of_lt hj.1)⟩,bZ,eu⟩
  · have HN := Lib.hid Fg
    clear hpo Fg
    go_wp2_with fail
    refine(iA p ki d 42 s L v _ HP.out.x (by decide)).mono ?_
    rintro x w2 ⟨rfl,hc2,hx2⟩
    rw[if_pos HN.out] at hx2
    have hki:ki<L.length:=fI HN.out (by decide)
    have hb2:=(hc2.block _ (lt_of_some HP.out.hb) (fun e=>hpb e.symm)).trans HP.out.hb
    have hblt:=lt_of_some hb2
    obtain⟨z0,z1,z2,hz⟩:=HP.out.hr
    have hr2:=(hc2.block _ (lt_of_some hz) (by omega)).trans hz
    have hbr:¬w1.heap.size=w.heap.size:=by omega
    obtain⟨⟨d0,d1,d2⟩,g0,g1,g2⟩:=ay hb2
    have bM:=HP.out.kp.to (hc2.ag.sub (fun j _ hj=>by omega))
    have HK:=Lib.hid bM
    have HC:=Lib.hid (HP.out.c.trans hc2)
    have fD:=Lib.hid hx2
    have HR2:=Lib.hid hr2
    have HB2:=Lib.hid hb2
    have oZ:=Lib.hid gU
    have lG:¬w2.heap.size=w1.heap.size:=by omega
    rw[decide_eq_true HN.out]
    clear c0 c1 c2 f0 f1 f2 hb2 hz bM hc2 hx2 hr2 HP gU
    go_wp2_with fail
    obtain⟨S3,hS⟩:∃S3,S3=((w2.setCell ⟨w1.heap.size,0,none⟩ (.int .i64 5)).setCell ⟨w1.heap.size,1,none⟩ (.slice none 0 0)).setCell ⟨w1.heap.size,2,none⟩ (.slice (some ⟨w2.heap.size,0,none⟩) 1 1):=⟨_,rfl⟩
    have hsz:S3.heap.size=w2.heap.size:=by rw[hS];simp[World.setCell]
    have hbS:S3.heap[w1.heap.size]? = some (.cells #[.int .i64 5,.slice none 0 0,.slice (some ⟨w2.heap.size,0,none⟩) 1 1] 35 (0,0)):=by
     rw[hS];have:=HB2.out;simp[World.setCell,Array.getElem?_modify,this]
    have xw:S3.heap[w.heap.size]? = some (.cells #[z0,z1,z2] 35 (0,0)):=by
     rw[hS,Below.heap_setCell _ _ _ _ (by simp;omega),Below.heap_setCell _ _ _ _ (by simp;omega),Below.heap_setCell _ _ _ _ (by simp;omega)];exact HR2.out
    have xS : Ag (fun j => w.heap.size < j ∧ j ≠ w1.heap.size) w2 S3 := by
     rw[hS]
     exact(((Ag.refl _ _).setCell (fun h=>h.2 rfl) _).setCell (fun h=>h.2 rfl) _).setCell (fun h=>h.2 rfl) _
    have Dz:Ch w S3 p:=by rw[hS];exact((HC.out.aN (by omega)).aN (by omega)).aN (by omega)
    have DC:XI S3 p s L (ki+1) d v:=by rw[hS];exact HX.out.aL (HX.out.aL (HX.out.aL fD.out (by omega)) (by omega)) (by omega)
    rw[←hS]
    clear hS d0 d1 d2 g0 g1 g2
    have hbel:=ah (Below.refl S3.heap.size S3) (.cells #[.int .i64 a'.kind,.slice o3 a'.set.length q3,.slice o4 a'.parts.length q4] 35)
    have iy:qQ w (S3.alloc (.cells #[.int .i64 a'.kind,.slice o3 a'.set.length q3,.slice o4 a'.parts.length q4] 35)) p w1.heap.size w.heap.size s L d (ki+1) v (.mk 5 [] [a']) (.slice none 0 0) (.slice (some ⟨w2.heap.size,0,none⟩) 1 1):=by
     refine⟨DC.moved hbel,Dz.trans (Ch.of hbel),by rw[hbel.block _ (lt_of_some hbS)];exact hbS,⟨z0,z1,z2,by rw[hbel.block _ (lt_of_some xw)];exact xw⟩,?_⟩
     intro w' hag
     refine Sj (t:=35) (a:=a') (s1:=.slice o3 a'.set.length q3) (l1:=.slice o4 a'.parts.length q4) ?_ ?_
     · rw [hag.block _ (by rw [← hsz]; simp) ⟨by omega, lG⟩, ← hsz]
       exact heap_alloc_new S3 _
     · refine HK.out w' (xS.trans ?_)
       exact(Ag.of hbel).sub (fun _ _ _=>trivial) |>.trans hag
    have jP:=Lib.hid iy
    clear iy hbS xw xS Dz DC hbel
    obtain⟨g,rfl⟩:∃g,gk=g+1:=⟨gk-1,by omega⟩
    go_roundg g
    case measure=>omega
    case rel=>exact⟨.mk 5 [] [a'],ki+1,none,some ⟨w2.heap.size,0,none⟩,0,1,by omega,jP.out,oZ.out⟩
theorem qQ.two {w w5:World} {p b r n5 k0 d0 k1 d:Nat} {s:ByteArray} {L:Its} {v x0 x1 x2 y0 y1 y2 s1 l1 s5 l5:Value} {a' b':RE} (K:Int)
 (h0:XI w p s L k0 d0 v) (hc:Ch w w5 p) (hx:XI w5 p s L k1 d v)
 (hb:w5.heap[b]? = some (.cells #[x0,x1,x2] 35 (0,0))) (hr:w5.heap[r]? = some (.cells #[y0,y1,y2] 35 (0,0)))
 (ka:KP (fun j=>r<j∧j≠b) w5 (fun w2=>bI w2 a' s1 l1)) (kb:KP (fun j=>n5≤j) w5 (fun w2=>bI w2 b' s5 l5))
 (hwb:w.heap.size≤b) (hwr:w.heap.size≤r) (hrb:r<b) (hbn:b<n5) :
 qQ w ((((w5.setCell ⟨b,0,none⟩ (.int .i64 K)).setCell ⟨b,1,none⟩ (.slice none 0 0)).setCell ⟨b,2,none⟩ (.slice (some ⟨w5.heap.size,0,none⟩) 2 2)).alloc (.cells #[.int .i64 a'.kind,s1,l1,.int .i64 b'.kind,s5,l5] 35)) p b r s L d k1 v (.mk K [] [a',b']) (.slice none 0 0) (.slice (some ⟨w5.heap.size,0,none⟩) 2 2):=by
 have hblt:=lt_of_some hb
 have dw:=h0.lt
 obtain⟨S3,hS⟩:∃S3,S3=((w5.setCell ⟨b,0,none⟩ (.int .i64 K)).setCell ⟨b,1,none⟩ (.slice none 0 0)).setCell ⟨b,2,none⟩ (.slice (some ⟨w5.heap.size,0,none⟩) 2 2):=⟨_,rfl⟩
 have hsz:S3.heap.size=w5.heap.size:=by rw[hS];simp[World.setCell]
 have hbS:S3.heap[b]? = some (.cells #[.int .i64 K,.slice none 0 0,.slice (some ⟨w5.heap.size,0,none⟩) 2 2] 35 (0,0)):=by
  rw[hS];simp[World.setCell,Array.getElem?_modify,hb]
 have xw:S3.heap[r]? = some (.cells #[y0,y1,y2] 35 (0,0)):=by
  rw[hS,Below.heap_setCell _ _ _ _ (by simp;omega),Below.heap_setCell _ _ _ _ (by simp;omega),Below.heap_setCell _ _ _ _ (by simp;omega)];exact hr
 have xS : Ag (fun j => j ≠ b) w5 S3 := by
  rw[hS]
  exact(((Ag.refl _ _).setCell (fun h=>h rfl) _).setCell (fun h=>h rfl) _).setCell (fun h=>h rfl) _
 have Dz:Ch w S3 p:=by rw[hS];exact((hc.aN (by omega)).aN (by omega)).aN (by omega)
 have DC:XI S3 p s L k1 d v:=by rw[hS];exact h0.aL (h0.aL (h0.aL hx (by omega)) (by omega)) (by omega)
 rw[←hS]
 have hbel:=ah (Below.refl S3.heap.size S3) (.cells #[.int .i64 a'.kind,s1,l1,.int .i64 b'.kind,s5,l5] 35)
 refine⟨DC.moved hbel,Dz.trans (Ch.of hbel),by rw[hbel.block _ (lt_of_some hbS)];exact hbS,⟨y0,y1,y2,by rw[hbel.block _ (lt_of_some xw)];exact xw⟩,?_⟩
 intro w' hag
 have hall:Ag (fun j=>r<j∧j≠b) w5 w':=(xS.sub (fun j _ hj=>hj.2)).trans ((Ag.of hbel).trans hag)
 refine Sl (t:=35) (a:=a') (b:=b') (s1:=s1) (l1:=l1) (s2:=s5) (l2:=l5) ?_ (ka w' hall) (kb w' (hall.sub (fun j _ hj=>⟨by omega,by omega⟩)))
 rw[hag.block _ (by rw[←hsz];simp) ⟨by omega,by omega⟩,←hsz]
 exact heap_alloc_new S3 _
theorem qw {w w3:World} {p r k0 d0 k d:Nat} {s:ByteArray} {L:Its} {v x0 x1 x2 sv lv:Value} {e:RE} {S:Nat→Prop} (h0:XI w p s L k0 d0 v) (hr:w3.heap[r]? = some (.cells #[x0,x1,x2] 35 (0,0)))
 (hwr:r=w.heap.size) (hc:Ch w w3 p) (hx:XI w3 p s L k d v) (hk:KP S w3 (fun w2=>bI w2 e sv lv)) (hS:∀j,S j→r<j) :
 ∃W9,W9=((w3.setCell ⟨r,0,none⟩ (.int .i64 e.kind)).setCell ⟨r,1,none⟩ sv).setCell ⟨r,2,none⟩ lv ∧
  ((W9.cell? ⟨r,0,none⟩=some (.int .i64 e.kind)∧W9.cell? ⟨r,1,none⟩=some sv∧W9.cell? ⟨r,2,none⟩=some lv)∧W9.frozen? ⟨r,0,none⟩=false∧W9.frozen? ⟨r,1,none⟩=false∧W9.frozen? ⟨r,2,none⟩=false) ∧
  jv w W9 e (.returned (.agg #[.int .i64 e.kind,sv,lv]))∧Ch w W9 p∧XI W9 p s L k d v:=by
 have hE:w.heap.size≤r:=by omega
 refine⟨_,rfl,ay (t:=35) (by simp[World.setCell,Array.getElem?_modify,hr]),⟨sv,lv,rfl,?_⟩,((hc.aN hE).aN hE).aN hE,h0.aL (h0.aL (h0.aL hx hE) hE) hE⟩
 refine(hk.to ((((Ag.refl _ _).setCell (fun h=>?_) _).setCell (fun h=>?_) _).setCell (fun h=>?_) _)).sub (fun j _ hj=>by have:=hS j hj;omega)
 all_goals exact Nat.lt_irrefl _ (hS _ h)
theorem Ch.cell {w w':World} {p b i:Nat} {x:Value} (h:Ch w w' p) (hb:b≠p) (hlt:b<w.heap.size) (h1:w.cell? ⟨b,i,none⟩=some x):w'.cell? ⟨b,i,none⟩=some x:=by
 unfold World.cell? at h1 ⊢
 rw[h.block b hlt hb];exact h1
inductive zw (L:Its) (P:Nat→RE→Nat→Prop):RE→Nat→RE→Nat→Prop
 | stop {k:Nat} {a:RE} (h:pk L k≠124):zw L P a k a k
 | go {k k1 k2:Nat} {a b e:RE} (h:pk L k=124) (p:P (k+1) b k1) (r:zw L P (.mk 4 [] [a,b]) k1 e k2):zw L P a k e k2
theorem zw.inv {L:Its} {P:Nat→RE→Nat→Prop} {a e:RE} {k k2:Nat} (h:zw L P a k e k2):(pk L k≠124∧a=e∧k=k2)∨(pk L k=124∧∃b k1,P (k+1) b k1∧zw L P (.mk 4 [] [a,b]) k1 e k2):=by
 cases h with
 | stop h=>exact .inl ⟨h,rfl,rfl⟩
 | go h p r=>exact .inr ⟨h,_,_,p,r⟩
inductive zx (L:Its) (P:Nat→RE→Nat→Prop):RE→Nat→RE→Nat→Prop
 | stop {k:Nat} {a:RE} (h:Pm.eG (pk L k)=false):zx L P a k a k
 | go {k k1 k2:Nat} {a b e:RE} (h:Pm.eG (pk L k)=true) (p:P k b k1) (r:zx L P (.mk 3 [] [a,b]) k1 e k2):zx L P a k e k2
theorem zx.inv {L:Its} {P:Nat→RE→Nat→Prop} {a e:RE} {k k2:Nat} (h:zx L P a k e k2):(Pm.eG (pk L k)=false∧a=e∧k=k2)∨(Pm.eG (pk L k)=true∧∃b k1,P k b k1∧zx L P (.mk 3 [] [a,b]) k1 e k2):=by
 cases h with
 | stop h=>exact .inl ⟨h,rfl,rfl⟩
 | go h p r=>exact .inr ⟨h,_,_,p,r⟩
theorem Ou {w:World} {k:Int}:bI w (.mk k [] []) (.slice none 0 0) (.slice none 0 0):=by
 refine .mk k [] [] _ _ [] ⟨none,0,rfl,by decide,by decide,.inl ⟨rfl,fun _=>rfl⟩⟩ ⟨none,0,rfl,by decide,by decide,.inl ⟨rfl,fun _=>rfl⟩⟩ rfl ?_ ?_
 · intro i e p he;simp at he
 · intro i e p he;simp at he
theorem oz {w:World} {k:Int} {S:List (Int×Int)} {sv:Value} (h:Row w sv S.length (flatK .i32 S)):bI w (.mk k S []) sv (.slice none 0 0):=by
 refine .mk k S [] _ _ [] h ⟨none,0,rfl,by decide,by decide,.inl ⟨rfl,fun _=>rfl⟩⟩ rfl ?_ ?_
 · intro i e p he;simp at he
 · intro i e p he;simp at he
end Go.Proofs.YtfkmajjgkdjncaaGreatDoor

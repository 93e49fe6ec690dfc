/- Merged. -/
import Derived.Test.YtfkmajjgkdjncaaGreatDoorChecked
import Derived.Test.YtfkmajjgkdjncaaGreatDoorProg
import Derived.Test.YtfkmajjgkdjncaaGreatDoorRows
import Derived.Test.YtfkmajjgkdjncaaGreatDoorDecMath
import Derived.WalkLawsBesides
import Derived.Lib.Hide
import Derived.Laws.BitsLemmas
import Derived.Test.YtfkmajjgkdjncaaGreatDoorRecov
import Derived.Outline
import Derived.Deep.Cut
set_option linter.unusedVariables false
set_option linter.unusedSimpArgs false
set_option maxHeartbeats 2000000
set_option maxRecDepth 1000000
namespace Go.Proofs.YtfkmajjgkdjncaaGreatDoor
open Go.RowKit De
theorem Bn (c:Int) (w:World):Calls Tryz.prog 137 #[.int .u8 c] w fun e w'=>
 e=.returned (.tuple #[.int .u8 (if c=224 then 160 else if c=240 then 144 else 128),.int .u8 (if c=237 then 159 else if c=244 then 143 else 191)])∧w=w':=by
 by_cases h1:c=224
 · subst h1
   go_enter Tryz.func137,Tryz.ntmps137
   go_wp2
   go_ret2
   exact⟨rfl,rfl⟩
 by_cases h2:c=237
 · subst h2
   go_enter Tryz.func137,Tryz.ntmps137
   go_wp2
   go_ret2
   exact⟨rfl,rfl⟩
 by_cases h3:c=240
 · subst h3
   go_enter Tryz.func137,Tryz.ntmps137
   go_wp2
   go_ret2
   exact⟨rfl,rfl⟩
 by_cases h4:c=244
 · subst h4
   go_enter Tryz.func137,Tryz.ntmps137
   go_wp2
   go_ret2
   exact⟨rfl,rfl⟩
 · have g1 : (c == 224) = false := by simpa using h1
   have g2:(c == 237)=false:=by simpa using h2
   have g3:(c == 240)=false:=by simpa using h3
   have g4:(c == 244)=false:=by simpa using h4
   rw[if_neg h1,if_neg h2,if_neg h3,if_neg h4]
   go_enter Tryz.func137,Tryz.ntmps137
   go_wp2
   go_ret2
   exact⟨rfl,rfl⟩
structure St (wr w:World) (qg qb:Nat) (g:Nat) (v:Value) (bs:List Int):Prop where
 good:w.heap[qg]? = some (.cells #[.int .i64 g] 3 (0,0))
 held:w.heap[qb]? = some (.cells #[v] 84 (0,0))
 row:Row wr v bs.length (bs.map (Value.int .u8))
 aV:Below wr.heap.size wr w
 X6:wr.heap.size≤qg
 ZU:wr.heap.size≤qb
 ne:qg≠qb
 small:bs.length≤1000000000
theorem St.step {wr w:World} {qg qb g:Nat} {v:Value} {bs:List Int} (h:St wr w qg qb g v bs) (g':Nat):St wr (w.setCell ⟨qg,0,none⟩ (.int .i64 g')) qg qb g' v bs:=
 ⟨CJ h.good _,by rw[Below.heap_setCell w _ _ qb (fun e=>h.ne e.symm)];exact h.held,h.row,h.aV.setCell h.X6 _,h.X6,h.ZU,h.ne,h.small⟩
abbrev broke (short:Bool):Ending:=.panicked [{ v:=.iface 155 (.agg #[.bool short]),recovered:=false }]
def OG (bs:List Int) (g:Nat) (lo hi:Int) (qg:Nat) (w:World) (e:Ending) (w':World):Prop:=
 (∃c,bs[g]? = some c∧lo≤c∧c≤hi∧e=.returned (.int .i32 c)∧w'=w.setCell ⟨qg,0,none⟩ (.int .i64 ((g+1:Nat):Int))) ∨
 (bs[g]? = none∧e=broke true∧w'=w)∨(∃c,bs[g]? = some c∧¬(lo≤c∧c≤hi)∧e=broke false∧w'=w)
theorem jY (wr:World) (qg qb g:Nat) (v:Value) (bs:List Int) (lo hi:Int) (w:World) (hS:St wr w qg qb g v bs) (hg0:g≤bs.length) (hu:∀x∈bs,0≤x∧x<256) :
 Calls Tryz.prog 108 #[.int .u8 lo,.int .u8 hi,.pointer (some ⟨qg,0,none⟩),.pointer (some ⟨qb,0,none⟩)] w (OG bs g lo hi qg w):=by
 have HS:=Lib.hid hS
 obtain⟨hg,hb,hr,hbel,hqg,lG,hne,hn⟩:=hS
 obtain⟨cG,fG⟩:=aj hg
 obtain⟨cB,fB⟩:=aj hb
 have hr2:=hr.below hbel
 clear hg hb hne hbel
 by_cases hlt:g<bs.length
 · obtain ⟨o, cap, rfl, hcap, hmax, hrow⟩ := hr
   rcases hrow with⟨h0,_⟩|⟨b,off,rfl,hbl,hcc⟩
   · omega
   obtain⟨_,_,e2,_,_,hrow2⟩:=hr2
   rcases hrow2 with⟨h0,_⟩|⟨b',off',e3,pE,Uv⟩
   · omega
   simp only[Value.slice.injEq,true_and] at e2
   obtain⟨e4,rfl⟩:=e2
   rw[e3] at e4
   simp only[Option.some.injEq,Addr.mk.injEq,and_true] at e4
   obtain⟨rfl,rfl⟩:=e4
   obtain⟨c,hc⟩:∃c,bs[g]? = some c:=⟨bs[g],List.getElem?_eq_getElem hlt⟩
   have Fy:=hu c (List.mem_of_getElem? hc)
   have hcell:w.cell? ⟨b,off+g,none⟩=some (.int .u8 c):=Uv g _ (by rw[List.getElem?_map,hc];rfl)
   have hbq:¬b=qg:=by omega
   have hbb:¬b=qb:=by omega
   have hqq:¬qb=qg:=fun e=>HS.out.ne e.symm
   have HC:=Lib.hid hc
   clear hcc Uv hc hu
   have hg1:(decide ((g:Int)=(bs.length:Int)))=false:=by simp;omega
   have hg2:(((g:Int) == (bs.length:Int)))=false:=by simp;omega
   by_cases h1:c<lo
   · go_enter Tryz.func108, Tryz.ntmps108
     go_wp2
     exact⟨rfl,.inr (.inr ⟨c,HC.out,by omega,rfl,rfl⟩)⟩
   by_cases h2:hi<c
   · go_enter Tryz.func108, Tryz.ntmps108
     go_wp2
     exact⟨rfl,.inr (.inr ⟨c,HC.out,by omega,rfl,rfl⟩)⟩
   · go_enter Tryz.func108, Tryz.ntmps108
     go_wp2
     go_ret
     exact .inl ⟨c,HC.out,by omega,by omega,rfl,by simp⟩
 · obtain rfl : g = bs.length := by omega
   have hnone:bs[bs.length]? = none:=by simp
   have HC:=Lib.hid hnone
   obtain⟨o,cap,rfl,hcap,hmax,_⟩:=hr
   clear hnone hr2 hu
   go_enter Tryz.func108,Tryz.ntmps108
   go_wp2
   exact⟨rfl,.inr (.inl ⟨HC.out,rfl,rfl⟩)⟩
namespace De
theorem Xq {x:Int} (h:0≤x∧x<256):bits .and .i32 x 31=x % 32:=bits_mask .i32 31 (by decide) wraps_i32 5 (by decide) x h.1 (by omega)
theorem Xr {x:Int} (h:0≤x∧x<256):bits .and .i32 x 15=x % 16:=bits_mask .i32 31 (by decide) wraps_i32 4 (by decide) x h.1 (by omega)
theorem and7 {x:Int} (h:0≤x∧x<256):bits .and .i32 x 7=x % 8:=bits_mask .i32 31 (by decide) wraps_i32 3 (by decide) x h.1 (by omega)
theorem Xt {x:Int} (h:0≤x∧x<256):bits .and .i32 x 63=x % 64:=bits_mask .i32 31 (by decide) wraps_i32 6 (by decide) x h.1 (by omega)
theorem zf {r y:Int} (h0:0≤r) (h1:r<16777216) (h:0≤y∧y<256):bits .or .i32 (wrap32 (r*64)) (bits .and .i32 y 63)=r*64+y % 64:=by
 have e:wrap32 (r*64)=r*64:=by unfold wrap32;first|(rw[IntKind.wrap_i32];omega)|omega
 rw[e,Xt h]
 exact i32_or6 _ _ (by omega) (by omega) (by omega) (by omega) (by omega)
theorem Ux {c:Int} {t:List Int} (h:c<128):one (c::t)=⟨c,1,false,false,false⟩:=by
 simp[one,YT h,ld,go]
theorem Uy {c:Int} {t:List Int} (h1:128≤c) (h2:c<194∨244<c):one (c::t)=⟨65533,1,true,false,false⟩:=by
 simp[one,YX h1 h2]
theorem OH {c:Int} {t:List Int} (h1:194≤c) (h2:c≤223):one (c::t)=go 1 1 128 191 (c % 32) t:=by
 simp[one,YU h1 h2,ld]
theorem Y0 {c:Int} {t:List Int} (h1:224≤c) (h2:c≤239):one (c::t)=go 2 1 (if c=224 then 160 else if c=240 then 144 else 128) (if c=237 then 159 else if c=244 then 143 else 191) (c % 16) t:=by
 simp only[one,YV h1 h2,ld]
 simp[show ¬c=240 by omega,show ¬c=244 by omega]
theorem Y1 {c:Int} {t:List Int} (h1:240≤c) (h2:c≤244):one (c::t)=go 3 1 (if c=224 then 160 else if c=240 then 144 else 128) (if c=237 then 159 else if c=244 then 143 else 191) (c % 8) t:=by
 simp only[one,YW h1 h2,ld]
 simp[show ¬c=224 by omega,show ¬c=237 by omega]
theorem vM {m k:Nat} {lo hi r:Int}:go (m+1) k lo hi r []=⟨65533,k,true,true,true⟩:=rfl
theorem sF {m k:Nat} {lo hi r c:Int} {t:List Int} (h:¬(lo≤c∧c≤hi)):go (m+1) k lo hi r (c::t)=⟨65533,k,true,true,false⟩:=by
 simp only[go];rw[if_neg h]
theorem CW {k:Nat} {lo hi r:Int} {t:List Int}:go 0 k lo hi r t=⟨r,k,false,false,false⟩:=by cases t<;>rfl
end De
theorem eH {k:IntKind} {a b:Int} (h:a=b):Ending.returned (.int k a)=.returned (.int k b):=by rw[h]
def gd (x:It):Nat:=if x.bad=true∧x.more=false then 0 else x.n
def kI (wr:World) (qg qb:Nat) (v:Value) (bs:List Int) (w:World) (e:Ending) (w':World):Prop:=
 (((one bs).bad=false∧e=.returned (.int .i32 (one bs).r))∨((one bs).bad=true∧e=broke (one bs).opn))∧St wr w' qg qb (gd (one bs)) v bs∧But w w' w.heap.size qg qg
theorem But.one' (w:World) (q:Nat) (x:Value):But w (w.setCell ⟨q,0,none⟩ x) w.heap.size q q:=(But.of (Below.refl _ _)).xO _
theorem KE {wr w w':World} {qg qb:Nat} {v:Value} {bs:List Int} {e:Ending} {r:Int} {n:Nat} (h:one bs=⟨r,n,false,false,false⟩) (he:e=.returned (.int .i32 r)) (hS:St wr w' qg qb n v bs) (hb:But w w' w.heap.size qg qg):kI wr qg qb v bs w e w':=by
 unfold kI
 rw[h]
 exact⟨.inl ⟨rfl,he⟩,by simpa [gd] using hS,hb⟩
theorem seqB {wr w w':World} {qg qb:Nat} {v:Value} {bs:List Int} {r:Int} {n:Nat} {o:Bool} (h:one bs=⟨r,n,true,true,o⟩) (hS:St wr w' qg qb n v bs) (hb:But w w' w.heap.size qg qg):kI wr qg qb v bs w (broke o) w':=by
 unfold kI
 rw[h]
 exact⟨.inr ⟨rfl,rfl⟩,by simpa [gd] using hS,hb⟩
theorem Uz {wr w:World} {qg qb:Nat} {v:Value} {bs:List Int} {r:Int} {n:Nat} (h:one bs=⟨r,n,true,false,false⟩) (hS:St wr w qg qb 0 v bs):kI wr qg qb v bs w (broke false) w:=by
 unfold kI
 rw[h]
 exact⟨.inr ⟨rfl,rfl⟩,by simpa [gd] using hS,But.of (Below.refl _ _)⟩
theorem iX {c y:Int} {t:List Int} {k:Nat} (h:(c::t)[k+1]? = some y):t[k]? = some y:=by simpa using h
theorem nR {y:Int} {t:List Int} (h:t[0]? = some y):∃t',t=y::t':=by
 cases t with
 | nil=>simp at h
 | cons a t=>exact⟨t,by simp at h;rw[h]⟩
theorem sG {t:List Int} (h:t[0]? = none):t=[]:=by
 cases t with
 | nil=>rfl
 | cons a t=>simp at h
theorem seq1 (wr:World) (qg qb:Nat) (v:Value) (c:Int) (t:List Int) (w:World) (hS:St wr w qg qb 0 v (c::t)) (hu:∀x∈c::t,0≤x∧x<256) (hc:c<128) :
 Calls Tryz.prog 109 #[.int .u8 c,.func (Fn.func 108) #[] #[.pointer (some ⟨qg,0,none⟩),.pointer (some ⟨qb,0,none⟩)]] w (kI wr qg qb v (c::t) w):=by
 have Fy:=hu c (by simp)
 go_enter Tryz.func109,Tryz.ntmps109
 go_wp2_with fail
 refine(jY wr qg qb 0 v (c::t) 0 127 w hS (by simp) hu).mono ?_
 rintro e w1 (⟨x,hx,h1,h2,rfl,rfl⟩|⟨hx,rfl,rfl⟩|⟨x,hx,h1,rfl,rfl⟩)
 · obtain rfl : x = c := by simpa using hx.symm
   go_wp2
   go_ret
   exact KE (Ux hc) rfl (hS.step 1) (But.one' _ _ _)
 · simp at hx
 · obtain rfl : x = c := by simpa using hx.symm
   omega
theorem seq2 (wr:World) (qg qb:Nat) (v:Value) (c:Int) (t:List Int) (w:World) (hS:St wr w qg qb 0 v (c::t)) (hu:∀x∈c::t,0≤x∧x<256) (hc:128≤c) (hc2:c<224) :
 Calls Tryz.prog 109 #[.int .u8 c,.func (Fn.func 108) #[] #[.pointer (some ⟨qg,0,none⟩),.pointer (some ⟨qb,0,none⟩)]] w (kI wr qg qb v (c::t) w):=by
 have Fy:=hu c (by simp)
 go_enter Tryz.func109,Tryz.ntmps109
 go_wp2_with fail
 refine(jY wr qg qb 0 v (c::t) 194 223 w hS (by simp) hu).mono ?_
 rintro e w1 (⟨x,hx,h1,h2,rfl,rfl⟩|⟨hx,rfl,rfl⟩|⟨x,hx,h1,rfl,rfl⟩)
 · obtain rfl : x = c := by simpa using hx.symm
   have hS1:=hS.step 1
   have hb1:=But.one' w qg (.int .i64 ((1:Nat):Int))
   clear hx
   go_wp2_with fail
   refine(jY wr qg qb 1 v (x::t) 128 191 _ hS1 (by simp) hu).mono ?_
   rintro e w1 (⟨y,hy,h3,h4,rfl,rfl⟩|⟨hy,rfl,rfl⟩|⟨y,hy,h3,rfl,rfl⟩)
   · obtain ⟨t', rfl⟩ := nR (iX hy)
     have hyu:=hu y (by simp)
     clear hy
     go_wp2
     go_ret
     refine KE (by rw[OH h1 h2,jR h3 h4,CW]) (eH ?_) (hS1.step 2) (hb1.xO _)
     rw[Xq Fy,zf (by omega) (by omega) hyu]
   · obtain rfl := sG (t := t) (by simpa using hy)
     go_wp2
     exact⟨rfl,seqB (by rw[OH h1 h2,vM]) hS1 hb1⟩
   · obtain ⟨t', rfl⟩ := nR (iX hy)
     go_wp2
     exact⟨rfl,seqB (by rw[OH h1 h2,sF h3]) hS1 hb1⟩
 · simp at hx
 · obtain rfl : x = c := by simpa using hx.symm
   go_wp2
   exact⟨rfl,Uz (Uy hc (by omega)) hS⟩
theorem Y2 (wr:World) (qg qb:Nat) (v:Value) (c:Int) (t:List Int) (w:World) (hS:St wr w qg qb 0 v (c::t)) (hu:∀x∈c::t,0≤x∧x<256) (hc:224≤c) (hc2:c<240) :
 Calls Tryz.prog 109 #[.int .u8 c,.func (Fn.func 108) #[] #[.pointer (some ⟨qg,0,none⟩),.pointer (some ⟨qb,0,none⟩)]] w (kI wr qg qb v (c::t) w):=by
 have Fy:=hu c (by simp)
 go_enter Tryz.func109,Tryz.ntmps109
 go_wp2_with fail
 refine(jY wr qg qb 0 v (c::t) 224 239 w hS (by simp) hu).mono ?_
 rintro e w1 (⟨x,hx,h1,h2,rfl,rfl⟩|⟨hx,rfl,rfl⟩|⟨x,hx,h1,rfl,rfl⟩)
 · obtain rfl : x = c := by simpa using hx.symm
   have hS1:=hS.step 1
   have hb1:=But.one' w qg (.int .i64 ((1:Nat):Int))
   have HO:=Lib.hid (Y0 (t:=t) h1 h2)
   clear hx
   go_wp2_with fail
   refine(Bn x _).mono ?_
   rintro e w' ⟨rfl,rfl⟩
   obtain⟨lo,hlo⟩:∃lo:Int,lo=(if x=224 then 160 else if x=240 then 144 else 128):=⟨_,rfl⟩
   obtain⟨hi,hhi⟩:∃hi:Int,hi=(if x=237 then 159 else if x=244 then 143 else 191):=⟨_,rfl⟩
   have HP:Hid (one (x::t)=go 2 1 lo hi (x % 16) t):=Lib.hid (by rw[HO.out,hlo,hhi])
   rw[←hlo,←hhi]
   clear HO hlo hhi
   go_wp2_with fail
   refine(jY wr qg qb 1 v (x::t) lo hi _ hS1 (by simp) hu).mono ?_
   rintro e w1 (⟨y,hy,h3,h4,rfl,rfl⟩|⟨hy,rfl,rfl⟩|⟨y,hy,h3,rfl,rfl⟩)
   · obtain ⟨t', rfl⟩ := nR (iX hy)
     have hyu:=hu y (by simp)
     have hS2:=hS1.step 2
     have hb2:=hb1.xO (i:=0) (.int .i64 ((2:Nat):Int))
     clear hy
     go_wp2_with fail
     refine(jY wr qg qb 2 v (x::y::t') 128 191 _ hS2 (by simp) hu).mono ?_
     rintro e w1 (⟨z,hz,h5,h6,rfl,rfl⟩|⟨hz,rfl,rfl⟩|⟨z,hz,h5,rfl,rfl⟩)
     · obtain ⟨t', rfl⟩ := nR (iX (iX hz))
       have hzu:=hu z (by simp)
       clear hz
       go_wp2
       go_ret
       refine KE (by rw[HP.out,jR h3 h4,jR h5 h6,CW]) (eH ?_) (hS2.step 3) (hb2.xO _)
       rw[Xr Fy,zf (r:=x % 16) (by omega) (by omega) hyu,zf (by omega) (by omega) hzu]
     · obtain rfl := sG (t := t') (by simpa using hz)
       go_wp2
       exact⟨rfl,seqB (by rw[HP.out,jR h3 h4,vM]) hS2 hb2⟩
     · obtain ⟨t', rfl⟩ := nR (iX (iX hz))
       go_wp2
       exact⟨rfl,seqB (by rw[HP.out,jR h3 h4,sF h5]) hS2 hb2⟩
   · obtain rfl := sG (t := t) (by simpa using hy)
     go_wp2
     exact⟨rfl,seqB (by rw[HP.out,vM]) hS1 hb1⟩
   · obtain ⟨t', rfl⟩ := nR (iX hy)
     go_wp2
     exact⟨rfl,seqB (by rw[HP.out,sF h3]) hS1 hb1⟩
 · simp at hx
 · obtain rfl : x = c := by simpa using hx.symm
   omega
theorem Y3 (wr:World) (qg qb:Nat) (v:Value) (c:Int) (t:List Int) (w:World) (hS:St wr w qg qb 0 v (c::t)) (hu:∀x∈c::t,0≤x∧x<256) (hc:240≤c) :
 Calls Tryz.prog 109 #[.int .u8 c,.func (Fn.func 108) #[] #[.pointer (some ⟨qg,0,none⟩),.pointer (some ⟨qb,0,none⟩)]] w (kI wr qg qb v (c::t) w):=by
 have Fy:=hu c (by simp)
 go_enter Tryz.func109,Tryz.ntmps109
 go_wp2_with fail
 refine(jY wr qg qb 0 v (c::t) 240 244 w hS (by simp) hu).mono ?_
 rintro e w1 (⟨x,hx,h1,h2,rfl,rfl⟩|⟨hx,rfl,rfl⟩|⟨x,hx,h1,rfl,rfl⟩)
 · obtain rfl : x = c := by simpa using hx.symm
   have hS1:=hS.step 1
   have hb1:=But.one' w qg (.int .i64 ((1:Nat):Int))
   have HO:=Lib.hid (Y1 (t:=t) h1 h2)
   clear hx
   go_wp2_with fail
   refine(Bn x _).mono ?_
   rintro e w' ⟨rfl,rfl⟩
   obtain⟨lo,hlo⟩:∃lo:Int,lo=(if x=224 then 160 else if x=240 then 144 else 128):=⟨_,rfl⟩
   obtain⟨hi,hhi⟩:∃hi:Int,hi=(if x=237 then 159 else if x=244 then 143 else 191):=⟨_,rfl⟩
   have HP:Hid (one (x::t)=go 3 1 lo hi (x % 8) t):=Lib.hid (by rw[HO.out,hlo,hhi])
   rw[←hlo,←hhi]
   clear HO hlo hhi
   go_wp2_with fail
   refine(jY wr qg qb 1 v (x::t) lo hi _ hS1 (by simp) hu).mono ?_
   rintro e w1 (⟨y,hy,h3,h4,rfl,rfl⟩|⟨hy,rfl,rfl⟩|⟨y,hy,h3,rfl,rfl⟩)
   · obtain ⟨t', rfl⟩ := nR (iX hy)
     have hyu:=hu y (by simp)
     have hS2:=hS1.step 2
     have hb2:=hb1.xO (i:=0) (.int .i64 ((2:Nat):Int))
     clear hy
     go_wp2_with fail
     refine(jY wr qg qb 2 v (x::y::t') 128 191 _ hS2 (by simp) hu).mono ?_
     rintro e w1 (⟨z,hz,h5,h6,rfl,rfl⟩|⟨hz,rfl,rfl⟩|⟨z,hz,h5,rfl,rfl⟩)
     · obtain ⟨t', rfl⟩ := nR (iX (iX hz))
       have hzu:=hu z (by simp)
       have vF:=hS2.step 3
       have hb3:=hb2.xO (i:=0) (.int .i64 ((3:Nat):Int))
       clear hz
       go_wp2_with fail
       refine(jY wr qg qb 3 v (x::y::z::t') 128 191 _ vF (by simp) hu).mono ?_
       rintro e w1 (⟨u,hz,h7,h8,rfl,rfl⟩|⟨hz,rfl,rfl⟩|⟨u,hz,h7,rfl,rfl⟩)
       · obtain ⟨t', rfl⟩ := nR (iX (iX (iX hz)))
         have ZV:=hu u (by simp)
         clear hz
         go_wp2
         go_ret
         refine KE (by rw[HP.out,jR h3 h4,jR h5 h6,jR h7 h8,CW]) (eH ?_) (vF.step 4) (hb3.xO _)
         rw[and7 Fy,zf (r:=x % 8) (by omega) (by omega) hyu,zf (r:=x % 8*64+y % 64) (by omega) (by omega) hzu,zf (by omega) (by omega) ZV]
       · obtain rfl := sG (t := t') (by simpa using hz)
         go_wp2
         exact⟨rfl,seqB (by rw[HP.out,jR h3 h4,jR h5 h6,vM]) vF hb3⟩
       · obtain ⟨t', rfl⟩ := nR (iX (iX (iX hz)))
         go_wp2
         exact⟨rfl,seqB (by rw[HP.out,jR h3 h4,jR h5 h6,sF h7]) vF hb3⟩
     · obtain rfl := sG (t := t') (by simpa using hz)
       go_wp2
       exact⟨rfl,seqB (by rw[HP.out,jR h3 h4,vM]) hS2 hb2⟩
     · obtain ⟨t', rfl⟩ := nR (iX (iX hz))
       go_wp2
       exact⟨rfl,seqB (by rw[HP.out,jR h3 h4,sF h5]) hS2 hb2⟩
   · obtain rfl := sG (t := t) (by simpa using hy)
     go_wp2
     exact⟨rfl,seqB (by rw[HP.out,vM]) hS1 hb1⟩
   · obtain ⟨t', rfl⟩ := nR (iX hy)
     go_wp2
     exact⟨rfl,seqB (by rw[HP.out,sF h3]) hS1 hb1⟩
 · simp at hx
 · obtain rfl : x = c := by simpa using hx.symm
   go_wp2
   exact⟨rfl,Uz (Uy (by omega) (by omega)) hS⟩
theorem SF (wr:World) (qg qb:Nat) (v:Value) (c:Int) (t:List Int) (w:World) (hS:St wr w qg qb 0 v (c::t)) (hu:∀x∈c::t,0≤x∧x<256) :
 Calls Tryz.prog 109 #[.int .u8 c,.func (Fn.func 108) #[] #[.pointer (some ⟨qg,0,none⟩),.pointer (some ⟨qb,0,none⟩)]] w (kI wr qg qb v (c::t) w):=by
 by_cases h1:c<128
 · exact seq1 wr qg qb v c t w hS hu h1
 by_cases h2:c<224
 · exact seq2 wr qg qb v c t w hS hu (by omega) h2
 by_cases h3:c<240
 · exact Y2 wr qg qb v c t w hS hu (by omega) h3
 · exact Y3 wr qg qb v c t w hS hu (by omega)
theorem sZ {w:World} {p:Nat} {a b c d e:Value} {t:TypeId} (h:w.heap[p]? = some (.cells #[a,b,c,d,e] t (0,0))) :
 (w.cell? ⟨p,0,none⟩=some a∧w.cell? ⟨p,1,none⟩=some b∧w.cell? ⟨p,2,none⟩=some c∧w.cell? ⟨p,3,none⟩=some d∧w.cell? ⟨p,4,none⟩=some e) ∧
 (w.frozen? ⟨p,0,none⟩=false∧w.frozen? ⟨p,1,none⟩=false∧w.frozen? ⟨p,2,none⟩=false∧w.frozen? ⟨p,3,none⟩=false∧w.frozen? ⟨p,4,none⟩=false):=by
 simp[World.cell?,World.frozen?,h]
theorem KF {w:World} {p:Nat} {a b c d e:Value} {t:TypeId} (h:w.heap[p]? = some (.cells #[a,b,c,d,e] t (0,0))) (a' b' c' d' e':Value) :
 (((((w.setCell ⟨p,0,none⟩ a').setCell ⟨p,1,none⟩ b').setCell ⟨p,2,none⟩ c').setCell ⟨p,3,none⟩ d').setCell ⟨p,4,none⟩ e').heap[p]? = some (.cells #[a',b',c',d',e'] t (0,0)):=by
 simp[World.setCell,Array.getElem?_modify,h]
def Mi (w:World) (qi qo:Nat) (f:Int) (g:Nat) (short:Bool) (x:Exit) (a:Act) (w':World):Prop:=
 x=.normal∧a.defers=[]∧w'.heap[qi]? = some (.cells #[.int .i32 65533,.int .i64 f,.int .i64 (f+max (g:Int) 1),.bool true,.bool (decide (0<(g:Int)))] 127 (0,0)) ∧
  w'.heap[qo]? = some (.cells #[.bool short] 4 (0,0))∧∀b,b≤qi→b≤qo→b≤w.heap.size→Below b w w'
theorem IV (qf qg qi qo:Nat) (f:Int) (g:Nat) (short:Bool) (w:World)
 (hF:w.heap[qf]? = some (.cells #[.int .i64 f] 3 (0,0))) (hG:w.heap[qg]? = some (.cells #[.int .i64 g] 3 (0,0)))
 (hI:w.heap[qi]? = some (.cells #[.int .i32 0,.int .i64 0,.int .i64 0,.bool false,.bool false] 127 (0,0))) (hO:w.heap[qo]? = some (.cells #[.bool false] 4 (0,0)))
 (hf:0≤f∧f≤1000000000) (hg:g≤4) (hd:qi≠qo) :
 CallsD Tryz.prog 107 #[.pointer (some ⟨qf,0,none⟩),.pointer (some ⟨qg,0,none⟩),.pointer (some ⟨qi,0,none⟩),.pointer (some ⟨qo,0,none⟩)] (.panicking ({ v:=.iface 155 (.agg #[.bool short]),recovered:=false }::[])) w fun e u' w'=>
  e=.returned (.tuple #[])∧u'=.panicking ({ v:=.iface 155 (.agg #[.bool short]),recovered:=true }::[]) ∧
  w'.heap[qi]? = some (.cells #[.int .i32 65533,.int .i64 f,.int .i64 (f+max (g:Int) 1),.bool true,.bool (decide (0<(g:Int)))] 127 (0,0)) ∧
  w'.heap[qo]? = some (.cells #[.bool short] 4 (0,0))∧∀b,b≤qi→b≤qo→b≤w.heap.size→Below b w w':=by
 have ta:∀w,(Instr.typeAssert (.iface 155 (.agg #[.bool short])) 20 155 true).run Tryz.prog w=.ok (.tuple #[.agg #[.bool short],.bool true]) w:=fun w=>by cases short<;>kernel_rfl
 obtain⟨cF,fF⟩:=aj hF
 obtain⟨cG,fG⟩:=aj hG
 obtain⟨cO,fO⟩:=aj hO
 refine callsD_of_wpS Tryz.func107 rfl fun c₀ cs hu=>?_
 simp only[Tryz.ntmps107,List.size_toArray,List.length_cons,List.length_nil,Nat.reduceAdd,Nat.reduceSub,Array.replicate_succ,Array.replicate_zero,List.push_toArray,List.append_toArray,List.nil_append,List.cons_append]
 have hrec : dW (c₀ :: cs) = (.iface 155 (.agg #[.bool short]), { c₀ with mode := .panicking ({ v := .iface 155 (.agg #[.bool short]), recovered := true } :: []) } :: cs) := by
  simp[dW,recoverD,hu]
 apply wpS_seq
 refine bO rfl rfl ?_
 rw[hrec]
 have HU:=Lib.hid hu
 clear hrec hu
 obtain⟨⟨i0,i1,i2,i3,i4⟩,j0,j1,j2,j3,j4⟩:=sZ hI
 have HI:=Lib.hid (And.intro hI hO)
 have hlt:qi<w.heap.size:=by rcases Nat.lt_or_ge qi w.heap.size with h|h;exact h;simp[h] at hI
 have hlo:qo<w.heap.size:=by rcases Nat.lt_or_ge qo w.heap.size with h|h;exact h;simp[h] at hO
 have hlf:qf<w.heap.size:=by rcases Nat.lt_or_ge qf w.heap.size with h|h;exact h;simp[h] at hF
 have UA:qg<w.heap.size:=by rcases Nat.lt_or_ge qg w.heap.size with h|h;exact h;simp[h] at hG
 clear hF hG hI hO
 go_wp2
 simp only[Exit.thenS]
 refine wpS_of_wp (wp_mono (Q:=Mi w qi qo f g short) ?_ ?_)
 · go_wp2
   all_goals (
    obtain⟨hI,hO⟩:=HI.out
    refine⟨rfl,rfl,?_,?_,?_⟩
    · rw [Below.heap_alloc _ _ _ (by simp [World.setCell]; omega), Below.heap_setCell _ _ _ _ (by simpa using hd), KF hI]
      have e1:(decide (0<g))=decide (0<(g:Int)):=by simp
      have e2:f+max (g:Int) 1=f+(g:Int)∨f+max (g:Int) 1=f+1:=by omega
      rw[e1]
      first
       | (have : f + max (g : Int) 1 = f + (g : Int) := by omega
          rw[this])
       | (have : f + max (g : Int) 1 = f + 1 := by omega
          rw[this])
    · rw [Below.heap_alloc _ _ _ (by simp [World.setCell]; omega)]
      refine CJ (a:=.bool false) ?_ _
      rw[Below.heap_setCell _ _ _ _ (by simpa using fun e=>hd e.symm),Below.heap_setCell _ _ _ _ (by simpa using fun e=>hd e.symm),Below.heap_setCell _ _ _ _ (by simpa using fun e=>hd e.symm),Below.heap_setCell _ _ _ _ (by simpa using fun e=>hd e.symm),Below.heap_setCell _ _ _ _ (by simpa using fun e=>hd e.symm)]
      exact hO
    · intro b h1 h2 h3
      exact((((((((Below.refl b w).setCell h1 _).setCell h1 _).setCell h1 _).setCell h1 _).setCell h1 _).setCell h2 _).alloc (by simp[World.setCell];exact h3) _))
 · rintro e a w' ⟨rfl, hdf, h1, h2, h3⟩
   refine⟨hdf,_,rfl,.tuple #[],?_,rfl,rfl,by simpa using h1,h2,h3⟩
   exact results_none rfl _ _ _
theorem KG (qf qg qi qo:Nat) (w:World) :
 CallsD Tryz.prog 107 #[.pointer (some ⟨qf,0,none⟩),.pointer (some ⟨qg,0,none⟩),.pointer (some ⟨qi,0,none⟩),.pointer (some ⟨qo,0,none⟩)] .returning w fun e u' w'=>
  e=.returned (.tuple #[])∧u'=.returning∧w'=w.alloc (.cells #[.bool false] 155):=by
 have ta:∀w,(Instr.typeAssert .nilIface 20 155 true).run Tryz.prog w=.ok (.tuple #[.agg #[.bool false],.bool false]) w:=fun w=>by kernel_rfl
 refine callsD_of_wpS Tryz.func107 rfl fun c₀ cs hu=>?_
 simp only[Tryz.ntmps107,List.size_toArray,List.length_cons,List.length_nil,Nat.reduceAdd,Nat.reduceSub,Array.replicate_succ,Array.replicate_zero,List.push_toArray,List.append_toArray,List.nil_append,List.cons_append]
 have hrec:dW (c₀::cs)=(.nilIface,c₀::cs):=by
  simp[dW,recoverD,hu]
 apply wpS_seq
 refine bO rfl rfl ?_
 rw[hrec]
 have HU:=Lib.hid hu
 clear hrec hu
 go_wp2
 simp only[Exit.thenS]
 refine wpS_of_wp (wp_mono (Q:=fun x a w'=>x=.normal∧a.defers=[]∧w'=w.alloc (.cells #[.bool false] 155)) ?_ ?_)
 · go_wp2
 · rintro e a w' ⟨rfl, hdf, rfl⟩
   exact⟨hdf,.returning,by have:=HU.out;cases c₀;simp_all,.tuple #[],results_none rfl _ _ _,rfl,rfl,rfl⟩
namespace De
theorem OI (l:List Int) (h:(one l).bad=true):(one l).r=65533∧((one l).more=true∨(one l).n=1):=by
 cases l with
 | nil=>simp[one]
 | cons c t =>
  simp only[one] at h ⊢
  split at h
  · rename_i hc;rw[if_pos hc];simp
  · rename_i hc
    rw[if_neg hc]
    have:=Um _ _ _ _ _ _ h
    exact⟨this.1,.inl this.2.2⟩
end De
theorem Xu (w:World) (o0 o1 o2 o3 o4:Obj) (W:World) (h:W=((((w.alloc o0).alloc o1).alloc o2).alloc o3).alloc o4) :
 W.heap[w.heap.size]? = some o0∧W.heap[w.heap.size+1]? = some o1∧W.heap[w.heap.size+1+1]? = some o2∧W.heap[w.heap.size+1+1+1]? = some o3∧W.heap[w.heap.size+1+1+1+1]? = some o4:=by
 subst h
 refine⟨?_,?_,?_,?_,?_⟩
 · rw [Below.heap_alloc _ _ _ (by simp <;> omega), Below.heap_alloc _ _ _ (by simp <;> omega), Below.heap_alloc _ _ _ (by simp <;> omega), Below.heap_alloc _ _ _ (by simp)]
   exact heap_alloc_new w _
 · rw [Below.heap_alloc _ _ _ (by simp <;> omega), Below.heap_alloc _ _ _ (by simp <;> omega), Below.heap_alloc _ _ _ (by simp)]
   have:=heap_alloc_new (w.alloc o0) o1
   simpa using this
 · rw [Below.heap_alloc _ _ _ (by simp <;> omega), Below.heap_alloc _ _ _ (by simp)]
   have:=heap_alloc_new ((w.alloc o0).alloc o1) o2
   simpa using this
 · rw [Below.heap_alloc _ _ _ (by simp)]
   have:=heap_alloc_new (((w.alloc o0).alloc o1).alloc o2) o3
   simpa using this
 · have := heap_alloc_new ((((w.alloc o0).alloc o1).alloc o2).alloc o3) o4
   simpa using this
def itc (f:Int) (x:It):List Value:=[.int .i32 x.r,.int .i64 f,.int .i64 (f+x.n),.bool x.bad,.bool x.more]
theorem SG (c:Int) (t:List Int) (v:Value) (f:Int) (w:World) (hr:Row w v (c::t).length ((c::t).map (Value.int .u8))) (hu:∀x∈c::t,0≤x∧x<256) (hf:0≤f∧f≤1000000000) (hl:(c::t).length≤1000000) :
 Calls Tryz.prog 68 #[v,.int .i64 f] w fun e w'=>e=.returned (.tuple #[.agg (itc f (one (c::t))).toArray,.bool (one (c::t)).opn])∧Below w.heap.size w w':=by
 have ng:∀(fn:Fn) (first cap:Array Value) (w:World),(Instr.makeFunc fn first cap).run Tryz.prog w=.ok (.func fn first cap) w:=fun _ _ _ _=>rfl
 have hlen:(c::t).length=t.length+1:=rfl
 obtain⟨b,off,cap,rfl,hbl,hcell⟩:∃b off cap,v=.slice (some ⟨b,off,none⟩) (c::t).length cap∧b<w.heap.size∧w.cell? ⟨b,off,none⟩=some (.int .u8 c):=by
  obtain⟨o,cap,rfl,h1,h2,h3⟩:=hr
  rcases h3 with⟨h0,_⟩|⟨b,off,rfl,hb,hc⟩
  · simp at h0
  · exact⟨b,off,cap,rfl,hb,by have:=hc 0 (.int .u8 c) (by simp);simpa using this⟩
 have HR:=Lib.hid hr
 obtain⟨W5,bT⟩:∃W5,W5=(((((w.alloc (.cells #[.slice (some ⟨b,off,none⟩) (t.length+1) cap] 84)).alloc (.cells #[.int .i64 f] 3)).alloc (.cells #[.int .i32 0,.int .i64 0,.int .i64 0,.bool false,.bool false] 127)).alloc (.cells #[.bool false] 4)).alloc (.cells #[.int .i64 0] 3)):=⟨_,rfl⟩
 have hbel:Below w.heap.size w W5:=by
  rw[bT]
  exact(((((Below.refl _ _).alloc (Nat.le_refl _) _).alloc (by simp) _).alloc (by simp;omega) _).alloc (by simp;omega) _).alloc (by simp;omega) _
 have h5:W5.cell? ⟨b,off,none⟩=some (.int .u8 c):=by rw[hbel.cell hbl];exact hcell
 have HB:=Lib.hid (And.intro hbel bT)
 have hz:W5.heap.size=w.heap.size+1+1+1+1+1:=by rw[bT];simp
 have HZ:=Lib.hid hz
 rw[bT] at h5
 clear hz hbel bT
 clear hr hlen
 go_enter_defers Tryz.func68,Tryz.ntmps68
 go_wp2_with fail
 obtain⟨hbel,bT⟩:=HB.out
 have hz:=HZ.out
 obtain⟨G0,G1,G2,G3,G4⟩:=Xu w _ _ _ _ _ W5 bT
 rw[←bT]
 have hS:St w W5 (w.heap.size+1+1+1+1) w.heap.size 0 (.slice (some ⟨b,off,none⟩) (t.length+1) cap) (c::t):=
  ⟨G4,G0,HR.out,hbel,by omega,by omega,by omega,by omega⟩
 clear h5 bT HB hcell
 refine(SF w _ _ _ c t W5 hS hu).mono ?_
 rintro e w1 ⟨he,hS1,qp⟩
 have F1:w1.heap[w.heap.size+1]? = some (.cells #[.int .i64 f] 3 (0,0)):=by rw[qp.block _ (by omega) (by omega) (by omega)];exact G1
 have F2:w1.heap[w.heap.size+1+1]? = some (.cells #[.int .i32 0,.int .i64 0,.int .i64 0,.bool false,.bool false] 127 (0,0)):=by rw[qp.block _ (by omega) (by omega) (by omega)];exact G2
 have F3:w1.heap[w.heap.size+1+1+1]? = some (.cells #[.bool false] 4 (0,0)):=by rw[qp.block _ (by omega) (by omega) (by omega)];exact G3
 have F4:=hS1.good
 have hsz:=qp.size
 obtain⟨x,hx⟩:∃x,x=one (c::t):=⟨_,rfl⟩
 have hn:=mU (c::t)
 have hb2:=OI (c::t)
 have hg2:=Fh (c::t) hu
 rw[←hx] at he hS1 F4 hn hb2 hg2
 have HE:=Lib.hid hx
 have HX:=Lib.hid (And.intro hn (And.intro hb2 (And.intro hg2 (And.intro hS1 (And.intro F2 F3)))))
 clear G0 G1 G2 G3 G4 hS hx HR hn hb2 hg2
 obtain⟨c1,z1⟩:=aj F1
 obtain⟨c3,z3⟩:=aj F3
 obtain⟨c4,z4⟩:=aj F4
 obtain⟨⟨i0,i1,i2,i3,i4⟩,j0,j1,j2,j3,j4⟩:=sZ F2
 rcases he with⟨hbad,rfl⟩|⟨hbad,rfl⟩
 · have hgd : gd x = x.n := by simp [gd, hbad]
   have Hb:=Lib.hid hbad
   rw[hgd] at c4
   have zB:=HX.out.1
   clear hS1 F1 F2 F3 F4 hgd hbad qp
   go_wp2
   obtain⟨W6,bA⟩:∃W6,W6=((((((w1.setCell ⟨w.heap.size+1+1,0,none⟩ (.int .i32 x.r)).setCell ⟨w.heap.size+1+1,1,none⟩ (.int .i64 f)).setCell ⟨w.heap.size+1+1,2,none⟩ (.int .i64 (f+(x.n:Int)))).setCell ⟨w.heap.size+1+1,3,none⟩ (.bool false)).setCell ⟨w.heap.size+1+1,4,none⟩ (.bool false)).setCell ⟨w.heap.size+1+1+1,0,none⟩ (.bool false)):=⟨_,rfl⟩
   rw[←bA]
   clear c1 z1 c3 z3 c4 z4 i0 i1 i2 i3 i4 j0 j1 j2 j3 j4
   have hb:=Hb.out
   obtain⟨hn,hb2,hg2,hS1,F2,F3⟩:=HX.out
   obtain⟨g1,g2,g3,g4⟩:=hg2 hb
   have H2:W6.heap[w.heap.size+1+1]? = some (.cells #[.int .i32 x.r,.int .i64 f,.int .i64 (f+(x.n:Int)),.bool false,.bool false] 127 (0,0)):=by
    rw[bA,Below.heap_setCell _ _ _ _ (by simp)];exact KF F2 _ _ _ _ _
   have H3:W6.heap[w.heap.size+1+1+1]? = some (.cells #[.bool false] 4 (0,0)):=by
    rw[bA];refine CJ (a:=.bool false) ?_ _
    rw[Below.heap_setCell _ _ _ _ (by simp),Below.heap_setCell _ _ _ _ (by simp),Below.heap_setCell _ _ _ _ (by simp),Below.heap_setCell _ _ _ _ (by simp),Below.heap_setCell _ _ _ _ (by simp)];exact F3
   have JB:Below w.heap.size w W6:=by
    rw[bA];have q:w.heap.size≤w.heap.size+1+1:=by omega
    exact(((((hS1.aV.setCell q _).setCell q _).setCell q _).setCell q _).setCell q _).setCell (Nat.le_succ_of_le q) _
   have hs6:=JB.size
   clear bA
   refine leaves_cons (f:=107) (args:=#[.pointer (some ⟨w.heap.size+1,0,none⟩),.pointer (some ⟨w.heap.size+1+1+1+1,0,none⟩),.pointer (some ⟨w.heap.size+1+1,0,none⟩),.pointer (some ⟨w.heap.size+1+1+1,0,none⟩)]) (by simp) (by simp[go_sem]) ?_
   refine(KG _ _ _ _ _).mono ?_
   rintro e u' w'' ⟨rfl,rfl,rfl⟩
   obtain⟨W7,lH⟩:∃W7,W7=W6.alloc (.cells #[.bool false] 155):=⟨_,rfl⟩
   rw[←lH]
   have K2:=H2
   have K3:=H3
   rw[←Below.heap_alloc W6 (.cells #[.bool false] 155) _ (by rcases Nat.lt_or_ge (w.heap.size+1+1) W6.heap.size with h|h;exact h;simp[h] at H2),←lH] at K2
   rw[←Below.heap_alloc W6 (.cells #[.bool false] 155) _ (by rcases Nat.lt_or_ge (w.heap.size+1+1+1) W6.heap.size with h|h;exact h;simp[h] at H3),←lH] at K3
   have jS:Below w.heap.size w W7:=by rw[lH];exact JB.alloc JB.size _
   clear lH H2 H3 JB
   obtain⟨c3,z3⟩:=aj K3
   obtain⟨⟨i0,i1,i2,i3,i4⟩,_⟩:=sZ K2
   simp[Leaves,settle,results,Tryz.results68,go_sem,c3,i0,i1,i2,i3,i4]
   rw[←HE.out]
   exact⟨⟨by simp[itc,hb,g3],g4⟩,jS⟩
 · have Hb := Lib.hid (And.intro hbad (And.intro F1 (And.intro F4 qp)))
   clear hS1 F1 F2 F3 F4 hbad qp
   go_wp2
   have hb:=Hb.out.1
   obtain⟨hn,hb2,hg2,hS1,F2,F3⟩:=HX.out
   obtain⟨g1,g2⟩:=hb2 hb
   have hgd:gd x≤4:=by unfold gd;split<;>omega
   refine leaves_cons (f:=107) (args:=#[.pointer (some ⟨w.heap.size+1,0,none⟩),.pointer (some ⟨w.heap.size+1+1+1+1,0,none⟩),.pointer (some ⟨w.heap.size+1+1,0,none⟩),.pointer (some ⟨w.heap.size+1+1+1,0,none⟩)]) (by simp) (by simp[go_sem]) ?_
   refine(IV _ _ _ _ f (gd x) x.opn w1 Hb.out.2.1 Hb.out.2.2.1 F2 F3 hf hgd (by omega)).mono ?_
   rintro e u' w7 ⟨rfl,rfl,K2,K3,eU⟩
   have jS:Below w.heap.size w w7:=hS1.aV.trans (eU _ (by omega) (by omega) (by omega))
   obtain⟨c3',z3'⟩:=aj K3
   obtain⟨⟨ZW,ZX,ZY,UC,Z0⟩,_⟩:=sZ K2
   clear c1 z1 c3 z3 c4 z4 i0 i1 i2 i3 i4 j0 j1 j2 j3 j4
   simp[Leaves,settle,results,Tryz.results68,go_sem,c3',ZW,ZX,ZY,UC,Z0]
   rw[←HE.out]
   refine⟨⟨?_,rfl⟩,jS⟩
   have q1:f+max ((gd x:Nat):Int) 1=f+(x.n:Int):=by
    unfold gd
    rcases g2 with g2|g2
    · simp[g2];omega
    · split<;>omega
   have q2:decide (0<gd x)=x.more:=by
    unfold gd
    rcases g2 with g2|g2
    · simp[g2];omega
    · cases hm : x.more with
      | true=>simp;omega
      | false=>simp[hb]
   simp[itc,hb,g1,q1,q2]
open Go.RowKit
theorem infoByte:∃i,Tryz.prog.info? 5=some i∧i.zero=some (.int .u8 0)∧i.size=1∧i.bytes=1:=info_parts (by kernel_rfl)
theorem DJ:Tryz.prog.elem 84=5:=by kernel_rfl
theorem wD:Tryz.prog.underlying 84=some (.slice (Tryz.prog.elem 84)):=by rw[DJ];exact Tryz.underlying84
theorem DK (w':World):(sizeOf (Tryz.prog.elem 84)).run Tryz.prog w'=.ok 1 w':=by
 obtain⟨i0,hi,hz0,hz1,hz2⟩:=infoByte
 rw[DJ];simp[sizeOf,run_typeInfo _ hi,hz1,go_sem]
theorem Z4 (o:Option Addr) (cap n:Nat) (cs:List Value) (hcs:cs.length=n) (k:Nat) (hk:k≤n) (hc:n≤cap):∃o1 c1,
 (∀w':World,(Instr.sliceAt 84 (.slice o n cap) none (some (.int .i64 k)) none).run Tryz.prog w'=.ok (.slice o1 k c1) w') ∧
  ∀w',Row w' (.slice o n cap) n cs→Row w' (.slice o1 k c1) k (cs.take k):=by
 have e1:((k:Int)).toNat=k:=by simp
 refine⟨(if cap=0 then o else o.map (·.add (0*1))),cap-0,fun w'=>?_,fun w' hr=>?_⟩
 · rw [run_sliceAt_slice _ _ _ _ _ _ wD, run_slice_h w' 84 o n cap wD .i64 (k : Int) (by omega) (by omega), DK]
   rw[Result.andThen_ok,e1]
   unfold Go.sliced
   rw[Nat.sub_zero k]
 · have h := hr.sliced hcs (Nat.zero_le k) hk
   unfold Go.sliced at h
   rw[Nat.sub_zero k,List.drop_zero] at h
   exact h
theorem Ma (o:Option Addr) (cap n:Nat) (cs:List Value) (hcs:cs.length=n) (k:Nat) (hk:k≤n) (hc:n≤cap):∃o1 c1,
 (∀w':World,(Instr.sliceAt 84 (.slice o n cap) (some (.int .i64 k)) none none).run Tryz.prog w'=.ok (.slice o1 (n-k) c1) w') ∧
  ∀w',Row w' (.slice o n cap) n cs→Row w' (.slice o1 (n-k) c1) (n-k) (cs.drop k):=by
 have e1:((k:Int)).toNat=k:=by simp
 refine⟨(if cap=k then o else o.map (·.add (k*1))),cap-k,fun w'=>?_,fun w' hr=>?_⟩
 · rw [run_sliceAt_slice _ _ _ _ _ _ wD, run_slice_l w' 84 o n cap wD .i64 (k : Int) (by omega) (by omega), DK]
   rw[Result.andThen_ok,e1]
   unfold Go.sliced
   rfl
 · have h := hr.sliced hcs hk (Nat.le_refl n)
   unfold Go.sliced at h
   rw[List.take_of_length_le (by simp;omega)] at h
   exact h
theorem Fv:∃i,Tryz.prog.info? 127=some i∧i.zero=some (.agg #[.int .i32 0,.int .i64 0,.int .i64 0,.bool false,.bool false])∧i.size=5∧i.bytes=32:=info_parts (by kernel_rfl)
theorem Xv {u:Value} {k:IntKind} {a b:Int} (h:a=b):Ending.returned (.tuple #[u,.int k a])=.returned (.tuple #[u,.int k b]):=by rw[h]
theorem int_eq {k:IntKind} {a b:Int} (h:a=b):Value.int k a=Value.int k b:=by rw[h]
def lM (L:List (Nat×It)):List Value:=L.flatMap fun p=>itc p.1 p.2
theorem zC (A B:List (Nat×It)):lM (A++B)=lM A++lM B:=by simp[lM]
theorem DI (bs:List Int) (k:Nat):(bs.map (Value.int .u8)).drop k=(bs.drop k).map (Value.int .u8):=by simp
theorem QJ (l:List Int) (h0:l≠[]) (v:Value) (f:Int) (w:World) (n:Nat) (hn:n=l.length) (hr:Row w v n (l.map (Value.int .u8))) (hu:∀x∈l,0≤x∧x<256) (hf:0≤f∧f≤1000000000) (hl:n≤1000000) :
 Calls Tryz.prog 68 #[v,.int .i64 f] w fun e w'=>e=.returned (.tuple #[.agg #[.int .i32 (one l).r,.int .i64 f,.int .i64 (f+(one l).n),.bool (one l).bad,.bool (one l).more],.bool (one l).opn])∧Below w.heap.size w w':=by
 subst hn
 cases l with
 | nil=>exact absurd rfl h0
 | cons c t=>exact SG c t v f w hr hu hf hl
theorem Jz (w:World) (a b c d e:Value) (t:TypeId) (B:Nat) (hB:w.heap.size=B):Row (w.alloc (.cells #[a,b,c,d,e] t)) (.slice (some ⟨B,0,none⟩) 1 1) 1 [a,b,c,d,e]:=by
 subst hB
 have h1:=World.ownsRow_lit (e:=t) (base:=w.heap.size) (size:=5) w #[a,b,c,d,e] 1 (Nat.le_refl _) (by decide) (by simp)
 simpa using Row.owned h1
theorem KH {w1 w2:World} {o1 o2:Obj} {row:Option Nat} (hg:((w1.alloc o1).alloc o2).grownBy w2 row) (hr:∀j,row=some j→j<w1.heap.size):w2.heap[w1.heap.size]? = some o1:=by
 rw[hg.block _ (by simp<;>omega) (fun e=>by have:=hr _ e.symm;omega),Below.heap_alloc _ _ _ (by simp)]
 exact heap_alloc_new w1 o1
theorem L9 (bs:List Int) (v:Value) (f:Nat) (w:World) (hr:Row w v bs.length (bs.map (Value.int .u8))) (hu:∀x∈bs,0≤x∧x<256) (hf:f≤100000000) (hl:bs.length≤1000000) :
 Calls Tryz.prog 67 #[v, .int .i64 f] w fun e w' => ∃ u, e = .returned (.tuple #[u, .int .i64 ((bs.length - (wh f bs).2.length : Nat) : Int)]) ∧
  w'.ownsRow w.heap.size 127 5 u (wh f bs).1.length (lM (wh f bs).1)∧Below w.heap.size w w':=by
 obtain⟨ii,hi,hz0,hz1,hz2⟩:=Fv
 have HR:=Lib.hid hr
 have HU:=Lib.hid hu
 obtain⟨o,cap,rfl,hcap,hmax,_⟩:=hr
 clear hu
 go_enter Tryz.func67,Tryz.ntmps67
 go_wp2_with fail
 go_loopw [6, 7] (fun u i wr => ∃ (k : Nat) (A : List (Nat × It)), k ≤ bs.length ∧ i = .int .i64 k ∧ wr.ownsRow w.heap.size 127 5 u A.length (lM A) ∧ Below w.heap.size w wr ∧ A.length ≤ k ∧
  wh f bs=(A++(wh (f+k) (bs.drop k)).1,(wh (f+k) (bs.drop k)).2))
  (fun _ i _=>bs.length-(intOf i).toNat)
 case atStart=>exact⟨0,[],Nat.zero_le _,rfl,World.ownsRow_nil _ _ _ _,Below.refl _ _,Nat.le_refl _,by simp⟩
 case round=>
  obtain⟨k,A,hk,rfl,hown,hbel,hAk,QK⟩:=hrel
  obtain⟨wo,rfl⟩:∃wo:World,wo=wr:=⟨_,rfl⟩
  by_cases hkt:k<bs.length
  · obtain ⟨o1, c1, hst, hsl⟩ := Ma o cap bs.length (bs.map (Value.int .u8)) (by simp) k hk hcap
    have hdl:bs.drop k=bs.getD k 0::bs.drop (k+1):=by
     rw[List.drop_eq_getElem_cons hkt];simp[List.getD,List.getElem?_eq_getElem hkt]
    have hrow:=hsl wo (HR.out.below hbel)
    rw[DI] at hrow
    have hlen:bs.length-k=(bs.drop k).length:=by simp
    have HW:=Lib.hid QK
    obtain⟨x,hx⟩:∃x,x=one (bs.drop k):=⟨_,rfl⟩
    have hn:=mU (bs.drop k)
    have hnl:x.n≤bs.length-k:=by rw[hx,hlen];exact hn.2.2 (by rw[hdl];simp)
    have hn1:1≤x.n:=by rw[hx];exact hn.1
    have zB:x.n≤4:=by rw[hx];exact hn.2.1
    obtain⟨ov,cv,rfl⟩:=au hown
    have HO:=Lib.hid (And.intro hown (And.intro hrow hbel))
    have HX:=Lib.hid hx
    have HD:=Lib.hid hdl
    have HL:=Lib.hid hlen
    clear QK hsl hrow hn hx hown hdl hlen
    go_wp2_with fail
    refine(QJ (bs.drop k) (by rw[HD.out];simp) _ ((f:Int)+k) wo _ HL.out HO.out.2.1 (fun y hy=>HU.out y (List.mem_of_mem_drop hy)) (by omega) (by omega)).mono ?_
    rintro e w1 ⟨rfl,hb1⟩
    rw[←HX.out]
    have hB1:Below w.heap.size w w1:=HO.out.2.2.trans (hb1.mono HO.out.2.2.size)
    have hown1:=bS HO.out.1 hb1
    have hsz:=hB1.size
    obtain⟨r,n,bad,more,opn⟩:=x
    simp only at hnl hn1 zB
    cases opn with
    | true =>
     have X7:=Lib.hid (And.intro hown1 hB1)
     clear hown1 hB1 hb1
     go_wp2
     go_ret2
     have h:=HW.out
     have hop:(one (bs.drop k)).opn=true:=by rw[←HX.out]
     rw[sj hop] at h
     rw[h]
     refine⟨_,Xv (by simp;omega),by simpa using X7.out.1.alloc _,X7.out.2.alloc (by omega) _⟩
    | false =>
     go_wp2_with (at_builtin;refine bB _ rfl _ _ 82 rfl w.heap.size 127 ii (.agg #[.int .i32 0,.int .i64 0,.int .i64 0,.bool false,.bool false]) 5 32 Tryz.underlying82 hi hz0 hz1 hz2 rfl (by decide) _ _ _ rfl ((hown1.alloc _).alloc _) _ 1 [.int .i32 r,.int .i64 ((f:Int)+k),.int .i64 ((f:Int)+k+n),.bool bad,.bool more] rfl (Jz _ _ _ _ _ _ _ _ (by simp)) rfl (by simp[Value.oneCell']) (by unfold maxLen;omega) (by omega) (by simp;omega) ?_;intro v' w2 hown2 hgrow2;have q5:=KH hgrow2 (fun j hj=>(hown1.lt j hj).2);obtain⟨⟨_,i1,i2,_,_⟩,_⟩:=sZ q5;have q6:Below w.heap.size w w2:=((hB1.alloc (by omega) _).alloc (by simp;omega) _).grown hgrow2 (by simp;omega) (fun j hj=>(hown1.lt j hj).1);clear q5)
     have H3:=Lib.hid (And.intro hown2 q6)
     clear hown2 q6 hgrow2 hown1 hB1 hb1
     go_wp2
     go_roundw
     case rel=>
      refine⟨k+n,A++[(f+k,⟨r,n,bad,more,false⟩)],by omega,int_eq (by simp;omega),?_,H3.out.2,by simp;omega,?_⟩
      · have h := H3.out.1
        rw[zC,List.length_append]
        simpa [lM,itc] using h
      · have h := HW.out
        have hne:bs.drop k≠[]:=by rw[HD.out];simp
        have hop:(one (bs.drop k)).opn=false:=by rw[←HX.out]
        rw[su hne hop,←HX.out,List.drop_drop] at h
        rw[h]
        simp only[List.append_assoc,List.singleton_append,Nat.add_assoc]
     case measure=>simp[intOf]<;>omega
  · have hkn : k = bs.length := by omega
    subst hkn
    have HW:=Lib.hid QK
    obtain⟨ov,cv,rfl⟩:=au hown
    have HO:=Lib.hid (And.intro hown hbel)
    clear QK hown
    go_wp2
    go_ret2
    have h:=HW.out
    rw[List.drop_length,vK] at h
    rw[h]
    exact⟨_,rfl,by simpa using HO.out.1,HO.out.2⟩
end Go.Proofs.YtfkmajjgkdjncaaGreatDoor

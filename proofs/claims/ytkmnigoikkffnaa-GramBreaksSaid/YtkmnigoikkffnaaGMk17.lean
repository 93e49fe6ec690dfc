/- gobolaw11.Make: its region 17 (a step). -/
import Derived.Test.YtkmnigoikkffnaaGMkX
import Derived.Test.YtkmnigoikkffnaaGMkG
import Derived.Deep.RegionHeld3
import Derived.Deep.CutBlock
set_option linter.unusedVariables false
set_option linter.unusedSimpArgs false
namespace Go.Proofs.Ytkmnigoikkffnaa
open Go.RowKit Ru
set_option maxHeartbeats 80000000 in
set_option maxRecDepth 100000 in
theorem mk_arm17 : mkX.2.1 := by
  intro hP L vs w hLB ii hi hz0 hz1 hz2 ir hr0 hr1 hr2 hr3 is hs0 hs1 hs2 hs3 cl zb0 W pc pd zb1 zb2 zb3 zb4 zb5 zb6 zb7 zb8 zb9 zb10 zb11 zb12 zb13 zb14 zb15 zb16 zb17 zb18 zb19 zb20 zb21 zb22 zb23 zb24 zb25 zb26 zb27 zb28 zb29 zb30 zb31 zb32 zb33 zb34 zb35 zb36 zb37 zb38 zb39 zb40 zb41 zb42 zb43 zb44 zb45 zb46 zb47 zb48 zb49 zb50 zb51 zb52 zb53 zb54 zb55 zb56 zb57 zb58 zb59 zb60 zb61 zb62 zb63 zb64 zb65 zb66 zb67 zb68 zb69 zb70 zb71 zb72 zb73 zb74 zb75 zb76 zb77 zb78 zb79 zb80 zb81 zb82 zb83 zb84 zb85 zb86 zb87 zb88 zb89 zb90 zb91 zb92 zb93 zb94 zb95 zb96 zb97 zb98 zb99 zb100 zb101 zb102 zb103 zb104 zb105 zb106 zb107 zb108 zb109 zb110 zb111 zb112 zb113 zb114 zb115 zb116 zb117 zb118 zb119 zb120 zb121 zb122 zb123 zb124 zb125 zb126 zb127 zb128 zb129 zb130 zb131 zb132 zb133 zb134 p5 pt pa pb W4 wc u14 u15 u16 u17 u18 u19 u20 u21 u22 u23 u24 u25 u26 u27 u28 u29 u30 u31 u32 u33 u34 u35 u36 u37 u38 u39 u40 u41 u42 u43 u44 u45 u46 u47 u48 u49 u50 zb135 zb136 zb137 zb138 zb139 zb140 zb141 zb142 zb143 zb144 zb145 zb146 zb147 zb148 zb149 zb150 zb151 zb152 zb153 zb154 zb155 zb156 zb157 zb158 zb159 zb160 zb161 zb162 zb163 zb164 zb165 zb166 zb167 zb168 zb169 zb170 zb171 zb172 zb173 zb174 zb175 zb176 zb177 zb178 zb179 zb180 zb181 zb182 zb183 zb184 zb185 zb186 zb187 zb188 zb189 zb190 zb191 zb192 zb193 zb194 zb195 zb196 zb197 zb198 zb199 zb200 zb201 zb202 zb203 zb204 zb205 zb206 zb207 zb208 zb209 zb210 zb211 zb212 zb213 zb214 zb215 zb216 zb217 zb218 zb219 zb220 zb221 zb222 zb223 zb224 zb225 zb226 zb227 zb228 zb229 u146 cb rb T C R B HMN zb230 zb231 u9 u10 u11 u12 zb232 u51 u52 u53 u54 u55 u56 u57 u58 u59 u60 u61 u62 u63 u64 u65 u66 u67 u68 u69 u70 u71 u72 u73 u74 u75 u76 u77 u78 u79 u80 u81 u82 u83 u84 zb233 zb234 zb235 zb236 zb237 zb238 zb239 zb240 zb241 zb242 zb243 zb244 zb245 zb246 zb247 zb248 zb249 zb250 zb251 zb252 zb253 zb254 zb255 zb256 zb257 zb258 zb259 zb260 zb261 zb262 zb263 zb264 zb265 zb266 zb267 zb268 zb269 zb270 zb271 zb272 zb273 zb274 zb275 zb276 zb277 zb278 zb279 zb280 zb281 zb282 zb283 zb284 zb285 zb286 zb287 u140 u141 u142 u143 u144 u145 zb288 zb289 i n c o ps hni hn3 ot nt ct HMG hiL hi3 hd1 hd1b hd2 hd2b li hli bL offL HLL zb290 ci hiL2 hi0 g zb291 hig h2 bl offl hu HLI k hll zb292 zb293 zb294 zb295 nn hnn fr wo HG hcL hrb hwr wr u13 u85 u86 u87 u88 u89 u90 u91 u92 u93 u94 u95 u96 u97 u98 u99 u100 u101 u102 u103 u104 u105 u106 u107 u108 u109 u110 u111 u112 u113 u114 u115 u116 u117 u118 u119 u120 u121 u122 u123 u124 u125 u126 u127 u128 u129 u130 u131 u132 u133 u134 u135 u136 u137 u138 u139 zb296 zb297 zb298 j c2 o2 qs HI HG2 hr hpg hbl hpgl hpl hcL2 q0 q1 q2 q3 c0 c1 c2' g2 zb299 hjg t0 t1 zb300 zb301 zb302 zb303 zb304 zb305 zb306 zb307
  have hN2 : 2 ≤ li.length := by omega
  have hNB : li.length ≤ 17592186044416 := hLB li (List.mem_of_getElem? hli)
  obtain ⟨y1, y2, lo, hi, e1, e2, e3, e4, e5, e6, e7, e8, hlh, hhN⟩ := mk_cut li.length j nn hN2 hNB (by omega) hnn.2
  have hcc : li.length ≤ ci := by
    obtain ⟨o', c', e, hc, -⟩ := HLI.out
    cases e; exact hc
  obtain ⟨o1, c1', hst, hsl⟩ := cutI_m (some ⟨bl, offl, none⟩) ci li.length (li.map (Value.int .i64)) (by simp) lo hi hlh hhN hcc
  obtain ⟨M, hM⟩ : ∃ M, M = hi - lo := ⟨_, rfl⟩
  rw [← hM] at hst hsl
  have HSL := Lib.hid (And.intro hM (And.intro hlh (And.intro hhN hsl)))
  have hML : ((li.drop lo).take M).length = M := by have := HSL.out.1; have := HSL.out.2.2.1; simp; omega
  have HCL := Lib.hid (show ∀ X, Below wr.heap.size wr X → Row X (.slice o1 M c1') ((li.drop lo).take M).length (((li.drop lo).take M).map (Value.int .i64)) from fun X hX => by
    rw [hML, List.map_take, List.map_drop]
    exact HSL.out.2.2.2 X (HLI.out.below (bel_then HG2.out.bel hX)))
  clear hML
  have hnn0 : ¬ (nn : Int) = 0 := by omega
  have hnn1 : decide ((nn : Int) = 0) = false := by simp; omega
  have hnn2 : ¬ nn = 0 := by omega
  have hnn3 : ((nn : Int) == 0) = false := by simp; omega
  have hnn4 : (nn == 0) = false := by simp; omega
  have hnn5 : decide (nn = 0) = false := by simp; omega
  have hj0' : (0 : Int) ≤ (j : Int) := by omega
  have hlo0 : (0 : Int) ≤ (lo : Int) := by omega
  have hbLw : bL < wr.heap.size := by omega
  clear hM hlh hhN hsl hN2 hNB q0 q1 q2 q3 c0 c1 c2'
--r17
  refine wp_region_noPanic ?_
  refine wp_region_held_drew (S := fun w' => w'.cell? ⟨bL, offL + i, none⟩ = some (.slice (some ⟨bl, offl, none⟩) li.length ci)) (by kernel_rfl) ((Below.cell (w := wr) (p := ⟨bL, offL + i, none⟩) (by repeat (first | exact Below.refl _ _ | exact hB9 | refine Below.drew ?_ | refine bel_new ?_ _ | refine Below.setCell ?_ (by simp <;> omega) _)) hbLw).trans hcL2) (fun hS => ?_)
  refine wpAnyH_take (i := 0) (v := ?_) rfl (by kernel_rfl) (by kernel_rfl) (by kernel_rfl) (fun _ _ _ h => h) (Or.inl ⟨by rfl, ?_⟩) hS ?_
  rotate_left
  · intro w hSw; skip; go_simp; try with_reducible rfl
  try simp only [Act.put, List.setIfInBounds_toArray, List.set_cons_zero, List.set_cons_succ, List.getElem_toArray, List.getElem_cons_succ, List.getElem_cons_zero]
  refine wpAnyH_take (i := 1) (v := ?_) rfl (by kernel_rfl) (by kernel_rfl) (by kernel_rfl) (fun _ _ _ h => h) (Or.inl ⟨by rfl, ?_⟩) hS ?_
  rotate_left
  · intro w hSw; skip; go_simp; try with_reducible rfl
  try simp only [Act.put, List.setIfInBounds_toArray, List.set_cons_zero, List.set_cons_succ, List.getElem_toArray, List.getElem_cons_succ, List.getElem_cons_zero]
  refine wpAnyH_take (i := 2) (v := ?_) rfl (by kernel_rfl) (by kernel_rfl) (by kernel_rfl) (fun _ _ _ h => h) (Or.inl ⟨by rfl, ?_⟩) hS ?_
  rotate_left
  · intro w hSw; skip; go_simp; try with_reducible rfl
  try simp only [Act.put, List.setIfInBounds_toArray, List.set_cons_zero, List.set_cons_succ, List.getElem_toArray, List.getElem_cons_succ, List.getElem_cons_zero]
  refine wpAnyH_take (i := 3) (v := ?_) rfl (by kernel_rfl) (by kernel_rfl) (by kernel_rfl) (fun _ _ _ h => h) (Or.inl ⟨by rfl, ?_⟩) hS ?_
  rotate_left
  · intro w hSw; skip; go_simp; try with_reducible rfl
  try simp only [Act.put, List.setIfInBounds_toArray, List.set_cons_zero, List.set_cons_succ, List.getElem_toArray, List.getElem_cons_succ, List.getElem_cons_zero]
  refine wpAnyH_take (i := 4) (v := ?_) rfl (by kernel_rfl) (by kernel_rfl) (by kernel_rfl) (fun _ _ _ h => h) (Or.inl ⟨by rfl, ?_⟩) hS ?_
  rotate_left
  · intro w hSw; skip; go_simp; try with_reducible rfl
  try simp only [Act.put, List.setIfInBounds_toArray, List.set_cons_zero, List.set_cons_succ, List.getElem_toArray, List.getElem_cons_succ, List.getElem_cons_zero]
  refine wpAnyH_take (i := 5) (v := ?_) rfl (by kernel_rfl) (by kernel_rfl) (by kernel_rfl) (fun _ _ _ h => h) (Or.inl ⟨by rfl, ?_⟩) hS ?_
  rotate_left
  · intro w hSw; skip; go_simp; try with_reducible rfl
  try simp only [Act.put, List.setIfInBounds_toArray, List.set_cons_zero, List.set_cons_succ, List.getElem_toArray, List.getElem_cons_succ, List.getElem_cons_zero]
  refine wpAnyH_take (i := 6) (v := ?_) rfl (by kernel_rfl) (by kernel_rfl) (by kernel_rfl) (fun _ _ _ h => h) (Or.inl ⟨by rfl, ?_⟩) hS ?_
  rotate_left
  · intro w hSw; skip; go_simp; try with_reducible rfl
  try simp only [Act.put, List.setIfInBounds_toArray, List.set_cons_zero, List.set_cons_succ, List.getElem_toArray, List.getElem_cons_succ, List.getElem_cons_zero]
  refine wpAnyH_take (i := 7) (v := ?_) rfl (by kernel_rfl) (by kernel_rfl) (by kernel_rfl) (fun _ _ _ h => h) (Or.inl ⟨by rfl, ?_⟩) hS ?_
  rotate_left
  · intro w hSw; skip; go_simp; try with_reducible rfl
  try simp only [Act.put, List.setIfInBounds_toArray, List.set_cons_zero, List.set_cons_succ, List.getElem_toArray, List.getElem_cons_succ, List.getElem_cons_zero]
  refine wpAnyH_take (i := 8) (v := ?_) rfl (by kernel_rfl) (by kernel_rfl) (by kernel_rfl) (fun _ _ _ h => h) (Or.inl ⟨by rfl, ?_⟩) hS ?_
  rotate_left
  · intro w hSw; skip; go_simp; try with_reducible rfl
  try simp only [Act.put, List.setIfInBounds_toArray, List.set_cons_zero, List.set_cons_succ, List.getElem_toArray, List.getElem_cons_succ, List.getElem_cons_zero]
  refine wpAnyH_take (i := 9) (v := ?_) rfl (by kernel_rfl) (by kernel_rfl) (by kernel_rfl) (fun _ _ _ h => h) (Or.inl ⟨by rfl, ?_⟩) hS ?_
  rotate_left
  · intro w hSw; skip; go_simp; try with_reducible rfl
  try simp only [Act.put, List.setIfInBounds_toArray, List.set_cons_zero, List.set_cons_succ, List.getElem_toArray, List.getElem_cons_succ, List.getElem_cons_zero]
  refine wpAnyH_take (i := 10) (v := ?_) rfl (by kernel_rfl) (by kernel_rfl) (by kernel_rfl) (fun _ _ _ h => h) (Or.inl ⟨by rfl, ?_⟩) hS ?_
  rotate_left
  · intro w hSw; skip; go_simp; try with_reducible rfl
  try simp only [Act.put, List.setIfInBounds_toArray, List.set_cons_zero, List.set_cons_succ, List.getElem_toArray, List.getElem_cons_succ, List.getElem_cons_zero]
  refine wpAnyH_take (i := 11) (v := ?_) rfl (by kernel_rfl) (by kernel_rfl) (by kernel_rfl) (fun _ _ _ h => h) (Or.inl ⟨by rfl, ?_⟩) hS ?_
  rotate_left
  · intro w hSw; skip; go_simp; try with_reducible rfl
  try simp only [Act.put, List.setIfInBounds_toArray, List.set_cons_zero, List.set_cons_succ, List.getElem_toArray, List.getElem_cons_succ, List.getElem_cons_zero]
  refine wpAnyH_take (i := 12) (v := ?_) rfl (by kernel_rfl) (by kernel_rfl) (by kernel_rfl) (fun _ _ _ h => h) (Or.inl ⟨by rfl, ?_⟩) hS ?_
  rotate_left
  · intro w hSw; skip; go_simp; try with_reducible rfl
  try simp only [Act.put, List.setIfInBounds_toArray, List.set_cons_zero, List.set_cons_succ, List.getElem_toArray, List.getElem_cons_succ, List.getElem_cons_zero]
  refine wpAnyH_take (i := 13) (v := ?_) rfl (by kernel_rfl) (by kernel_rfl) (by kernel_rfl) (fun _ _ _ h => h) (Or.inl ⟨by rfl, ?_⟩) hS ?_
  rotate_left
  · intro w hSw; skip; go_simp; try with_reducible rfl
  try simp only [Act.put, List.setIfInBounds_toArray, List.set_cons_zero, List.set_cons_succ, List.getElem_toArray, List.getElem_cons_succ, List.getElem_cons_zero]
  refine wpAnyH_take (i := 14) (v := ?_) rfl (by kernel_rfl) (by kernel_rfl) (by kernel_rfl) (fun _ _ _ h => h) (Or.inl ⟨by rfl, ?_⟩) hS ?_
  rotate_left
  · intro w hSw; skip; go_simp; try with_reducible rfl
  try simp only [Act.put, List.setIfInBounds_toArray, List.set_cons_zero, List.set_cons_succ, List.getElem_toArray, List.getElem_cons_succ, List.getElem_cons_zero]
  refine wpAnyH_take (i := 15) (v := ?_) rfl (by kernel_rfl) (by kernel_rfl) (by kernel_rfl) (fun _ _ _ h => h) (Or.inl ⟨by rfl, ?_⟩) hS ?_
  rotate_left
  · intro w hSw; skip; go_simp; try with_reducible rfl
  try simp only [Act.put, List.setIfInBounds_toArray, List.set_cons_zero, List.set_cons_succ, List.getElem_toArray, List.getElem_cons_succ, List.getElem_cons_zero]
  refine wpAnyH_take (i := 16) (v := ?_) rfl (by kernel_rfl) (by kernel_rfl) (by kernel_rfl) (fun _ _ _ h => h) (Or.inl ⟨by rfl, ?_⟩) hS ?_
  rotate_left
  · intro w hSw; skip; go_simp; try with_reducible rfl
  try simp only [Act.put, List.setIfInBounds_toArray, List.set_cons_zero, List.set_cons_succ, List.getElem_toArray, List.getElem_cons_succ, List.getElem_cons_zero]
  refine wpAnyH_take (i := 17) (v := ?_) rfl (by kernel_rfl) (by kernel_rfl) (by kernel_rfl) (fun _ _ _ h => h) (Or.inl ⟨by rfl, ?_⟩) hS ?_
  rotate_left
  · intro w hSw; skip; go_simp; try with_reducible rfl
  try simp only [Act.put, List.setIfInBounds_toArray, List.set_cons_zero, List.set_cons_succ, List.getElem_toArray, List.getElem_cons_succ, List.getElem_cons_zero]
  refine wpAnyH_take (i := 18) (v := ?_) rfl (by kernel_rfl) (by kernel_rfl) (by kernel_rfl) (fun _ _ _ h => h) (Or.inl ⟨by rfl, ?_⟩) hS ?_
  rotate_left
  · intro w hSw; skip; go_simp; try with_reducible rfl
  try simp only [Act.put, List.setIfInBounds_toArray, List.set_cons_zero, List.set_cons_succ, List.getElem_toArray, List.getElem_cons_succ, List.getElem_cons_zero]
  refine wpAnyH_take (i := 19) (v := ?_) rfl (by kernel_rfl) (by kernel_rfl) (by kernel_rfl) (fun _ _ _ h => h) (Or.inl ⟨by rfl, ?_⟩) hS ?_
  rotate_left
  · intro w hSw; skip; go_simp; try with_reducible rfl
  try simp only [Act.put, List.setIfInBounds_toArray, List.set_cons_zero, List.set_cons_succ, List.getElem_toArray, List.getElem_cons_succ, List.getElem_cons_zero]
  refine wpAnyH_take (i := 20) (v := ?_) rfl (by kernel_rfl) (by kernel_rfl) (by kernel_rfl) (fun _ _ _ h => h) (Or.inl ⟨by rfl, ?_⟩) hS ?_
  rotate_left
  · intro w hSw; skip; go_simp; try with_reducible rfl
  try simp only [Act.put, List.setIfInBounds_toArray, List.set_cons_zero, List.set_cons_succ, List.getElem_toArray, List.getElem_cons_succ, List.getElem_cons_zero]
  refine wpAnyH_take (i := 21) (v := ?_) rfl (by kernel_rfl) (by kernel_rfl) (by kernel_rfl) (fun _ _ _ h => h) (Or.inl ⟨by rfl, ?_⟩) hS ?_
  rotate_left
  · intro w hSw; skip; go_simp; try with_reducible rfl
  try simp only [Act.put, List.setIfInBounds_toArray, List.set_cons_zero, List.set_cons_succ, List.getElem_toArray, List.getElem_cons_succ, List.getElem_cons_zero]
  refine wpAnyH_take (i := 22) (v := ?_) rfl (by kernel_rfl) (by kernel_rfl) (by kernel_rfl) (fun _ _ _ h => h) (Or.inl ⟨by rfl, ?_⟩) hS ?_
  rotate_left
  · intro w hSw; skip; go_simp; try with_reducible rfl
  try simp only [Act.put, List.setIfInBounds_toArray, List.set_cons_zero, List.set_cons_succ, List.getElem_toArray, List.getElem_cons_succ, List.getElem_cons_zero]
  refine wpAnyH_take (i := 23) (v := ?_) rfl (by kernel_rfl) (by kernel_rfl) (by kernel_rfl) (fun _ _ _ h => h) (Or.inl ⟨by rfl, ?_⟩) hS ?_
  rotate_left
  · intro w hSw; skip; go_simp; try with_reducible rfl
  try simp only [Act.put, List.setIfInBounds_toArray, List.set_cons_zero, List.set_cons_succ, List.getElem_toArray, List.getElem_cons_succ, List.getElem_cons_zero]
  refine wpAnyH_take (i := 24) (v := ?_) rfl (by kernel_rfl) (by kernel_rfl) (by kernel_rfl) (fun _ _ _ h => h) (Or.inl ⟨by rfl, ?_⟩) hS ?_
  rotate_left
  · intro w hSw; skip; go_simp; try with_reducible rfl
  try simp only [Act.put, List.setIfInBounds_toArray, List.set_cons_zero, List.set_cons_succ, List.getElem_toArray, List.getElem_cons_succ, List.getElem_cons_zero]
  refine wpAnyH_take (i := 25) (v := ?_) rfl (by kernel_rfl) (by kernel_rfl) (by kernel_rfl) (fun _ _ _ h => h) (Or.inl ⟨by rfl, ?_⟩) hS ?_
  rotate_left
  · intro w hSw; skip; go_simp; try with_reducible rfl
  try simp only [Act.put, List.setIfInBounds_toArray, List.set_cons_zero, List.set_cons_succ, List.getElem_toArray, List.getElem_cons_succ, List.getElem_cons_zero]
  refine wpAnyH_take (i := 26) (v := ?_) rfl (by kernel_rfl) (by kernel_rfl) (by kernel_rfl) (fun _ _ _ h => h) (Or.inl ⟨by rfl, ?_⟩) hS ?_
  rotate_left
  · intro w hSw; skip; go_simp; try with_reducible rfl
  try simp only [Act.put, List.setIfInBounds_toArray, List.set_cons_zero, List.set_cons_succ, List.getElem_toArray, List.getElem_cons_succ, List.getElem_cons_zero]
  refine wpAnyH_take (i := 27) (v := ?_) rfl (by kernel_rfl) (by kernel_rfl) (by kernel_rfl) (fun _ _ _ h => h) (Or.inl ⟨by rfl, ?_⟩) hS ?_
  rotate_left
  · intro w hSw; skip; go_simp; try with_reducible rfl
  try simp only [Act.put, List.setIfInBounds_toArray, List.set_cons_zero, List.set_cons_succ, List.getElem_toArray, List.getElem_cons_succ, List.getElem_cons_zero]
  refine wpAnyH_take (i := 29) (v := ?_) rfl (by kernel_rfl) (by kernel_rfl) (by kernel_rfl) (fun _ _ _ h => h) (Or.inl ⟨by rfl, ?_⟩) hS ?_
  rotate_left
  · intro w hSw; skip; go_simp; try with_reducible rfl
  try simp only [Act.put, List.setIfInBounds_toArray, List.set_cons_zero, List.set_cons_succ, List.getElem_toArray, List.getElem_cons_succ, List.getElem_cons_zero]
  refine wpAnyH_take (i := 30) (v := ?_) rfl (by kernel_rfl) (by kernel_rfl) (by kernel_rfl) (fun _ _ _ h => h) (Or.inl ⟨by rfl, ?_⟩) hS ?_
  rotate_left
  · intro w hSw; skip; go_simp; try with_reducible rfl
  try simp only [Act.put, List.setIfInBounds_toArray, List.set_cons_zero, List.set_cons_succ, List.getElem_toArray, List.getElem_cons_succ, List.getElem_cons_zero]
  refine wpAnyH_ready (rs := [28, 33]) (by kernel_rfl) (by simp) ?_
  refine AllReadyH.cons rfl (fun K hK => ?_) (AllReadyH.cons rfl (fun K hK => ?_) AllReadyH.nil)
  · go_simp
    refine hK.out _ _ ((Below.cell (w := wr) (p := ⟨bL, offL + i, none⟩) (by repeat (first | exact Below.refl _ _ | exact hB9 | refine Below.drew ?_ | refine bel_new ?_ _ | refine Below.setCell ?_ (by simp <;> omega) _)) hbLw).trans hcL2) (fun hS => ?_)
    clear hK K
    try simp only [Act.put, List.setIfInBounds_toArray, List.set_cons_zero, List.set_cons_succ, List.getElem_toArray, List.getElem_cons_succ, List.getElem_cons_zero]
    refine wpAnyH_ready (rs := [31, 33]) (by kernel_rfl) (by simp) ?_
    refine AllReadyH.cons rfl (fun K hK => ?_) (AllReadyH.cons rfl (fun K hK => ?_) AllReadyH.nil)
    · go_simp
      go_at_call 49
      refine (hP T ((li.drop lo).take M) (.slice o1 M c1') (.slice (some ⟨_, 0, none⟩) 2 2) _ _ [nmA, nmB] C R _ (HCL.out _ (by repeat (first | exact Below.refl _ _ | refine Below.drew ?_ | refine bel_new ?_ _ | refine Below.setCell ?_ (by simp <;> omega) _))) (me_at HG2.out HMN.out (by repeat (first | exact Below.refl _ _ | refine Below.drew ?_ | refine bel_new ?_ _ | refine Below.setCell ?_ (by simp <;> omega) _)) (by with_reducible exact al_one wr _))).mono ?_
      rintro e w3 ⟨p, nv, ev, pv, rfl, hkp, hpg3, hb3⟩
      obtain ⟨⟨o5, c5, e5⟩, ⟨o6, c6, e6⟩, ⟨o7, c7, e7⟩⟩ := hkp.here.form
      subst e5 e6 e7
      have hB9 : Below wr.heap.size wr w3 := bel_then (by repeat (first | exact Below.refl _ _ | refine Below.drew ?_ | refine bel_new ?_ _ | refine Below.setCell ?_ (by simp <;> omega) _)) hb3
      have HKP := Lib.hid (And.intro hkp (And.intro hpg3 hb3))
      clear hkp hpg3 hb3
      refine hK.out _ _ ((Below.cell (w := wr) (p := ⟨bL, offL + i, none⟩) (by repeat (first | exact Below.refl _ _ | exact hB9 | refine Below.drew ?_ | refine bel_new ?_ _ | refine Below.setCell ?_ (by simp <;> omega) _)) hbLw).trans hcL2) (fun hS => ?_)
      clear hK K
      try simp only [Act.put, List.setIfInBounds_toArray, List.set_cons_zero, List.set_cons_succ, List.getElem_toArray, List.getElem_cons_succ, List.getElem_cons_zero]
      refine wpAnyH_take (i := 32) (v := ?_) rfl (by kernel_rfl) (by kernel_rfl) (by kernel_rfl) (fun _ _ _ h => h) (Or.inl ⟨by rfl, ?_⟩) hS ?_
      rotate_left
      · intro w hSw; skip; go_simp; try with_reducible rfl
      try simp only [Act.put, List.setIfInBounds_toArray, List.set_cons_zero, List.set_cons_succ, List.getElem_toArray, List.getElem_cons_succ, List.getElem_cons_zero]
      refine wpAnyH_ready (rs := [33]) (by kernel_rfl) (by simp) ?_
      refine AllReadyH.cons rfl (fun K hK => ?_) AllReadyH.nil
      go_simp
      refine hK.out _ _ ((Below.cell (w := wr) (p := ⟨bL, offL + i, none⟩) (by repeat (first | exact Below.refl _ _ | exact hB9 | refine Below.drew ?_ | refine bel_new ?_ _ | refine Below.setCell ?_ (by simp <;> omega) _)) hbLw).trans hcL2) (fun hS => ?_)
      clear hK K
      try simp only [Act.put, List.setIfInBounds_toArray, List.set_cons_zero, List.set_cons_succ, List.getElem_toArray, List.getElem_cons_succ, List.getElem_cons_zero]
      refine wpAnyH_ready (rs := [34]) (by kernel_rfl) (by simp) ?_
      refine AllReadyH.cons rfl (fun K hK => ?_) AllReadyH.nil
      go_simp
      refine hK.out _ _ ((Below.cell (w := wr) (p := ⟨bL, offL + i, none⟩) (by repeat (first | exact Below.refl _ _ | exact hB9 | refine Below.drew ?_ | refine bel_new ?_ _ | refine Below.setCell ?_ (by simp <;> omega) _)) hbLw).trans hcL2) (fun hS => ?_)
      clear hK K
      try simp only [Act.put, List.setIfInBounds_toArray, List.set_cons_zero, List.set_cons_succ, List.getElem_toArray, List.getElem_cons_succ, List.getElem_cons_zero]
      refine wpAnyH_done (by kernel_rfl) ?_ _
      refine NoPanic.normal ?_
      go_wp2_with fail
      go_meet
      exact reg17_new HG2.out HI.out (by repeat (first | exact Below.refl _ _ | refine Below.drew ?_ | refine bel_new ?_ _ | refine Below.setCell ?_ (by simp <;> omega) _)) HKP.out.2.2 HKP.out.1 HKP.out.2.1
    · go_simp
      refine hK.out _ _ ((Below.cell (w := wr) (p := ⟨bL, offL + i, none⟩) (by repeat (first | exact Below.refl _ _ | exact hB9 | refine Below.drew ?_ | refine bel_new ?_ _ | refine Below.setCell ?_ (by simp <;> omega) _)) hbLw).trans hcL2) (fun hS => ?_)
      clear hK K
      try simp only [Act.put, List.setIfInBounds_toArray, List.set_cons_zero, List.set_cons_succ, List.getElem_toArray, List.getElem_cons_succ, List.getElem_cons_zero]
      refine wpAnyH_ready (rs := [31]) (by kernel_rfl) (by simp) ?_
      refine AllReadyH.cons rfl (fun K hK => ?_) AllReadyH.nil
      go_simp
      go_at_call 49
      refine (hP T ((li.drop lo).take M) (.slice o1 M c1') (.slice (some ⟨_, 0, none⟩) 2 2) _ _ [nmA, nmB] C R _ (HCL.out _ (by repeat (first | exact Below.refl _ _ | refine Below.drew ?_ | refine bel_new ?_ _ | refine Below.setCell ?_ (by simp <;> omega) _))) (me_at HG2.out HMN.out (by repeat (first | exact Below.refl _ _ | refine Below.drew ?_ | refine bel_new ?_ _ | refine Below.setCell ?_ (by simp <;> omega) _)) (by with_reducible exact al_fst wr _ _))).mono ?_
      rintro e w3 ⟨p, nv, ev, pv, rfl, hkp, hpg3, hb3⟩
      obtain ⟨⟨o5, c5, e5⟩, ⟨o6, c6, e6⟩, ⟨o7, c7, e7⟩⟩ := hkp.here.form
      subst e5 e6 e7
      have hB9 : Below wr.heap.size wr w3 := bel_then (by repeat (first | exact Below.refl _ _ | refine Below.drew ?_ | refine bel_new ?_ _ | refine Below.setCell ?_ (by simp <;> omega) _)) hb3
      have HKP := Lib.hid (And.intro hkp (And.intro hpg3 hb3))
      have hs9 : w3.heap[wr.heap.size + 1]? = some (.cells #[.slice none 0 0, .int .i64 0, .slice none 0 0, .slice none 0 0, .slice none 0 0] 45 (0, 0)) := bel_get hb3 (by with_reducible exact al_snd' wr _ _)
      have z0 : w3.cell? ⟨wr.heap.size + 1, 0, none⟩ = some (.slice none 0 0) ∧ w3.cell? ⟨wr.heap.size + 1, 1, none⟩ = some (.int .i64 0) ∧ w3.cell? ⟨wr.heap.size + 1, 2, none⟩ = some (.slice none 0 0) ∧ w3.cell? ⟨wr.heap.size + 1, 3, none⟩ = some (.slice none 0 0) ∧ w3.cell? ⟨wr.heap.size + 1, 4, none⟩ = some (.slice none 0 0) := by simp [World.cell?, hs9]
      have f0 : w3.frozen? ⟨wr.heap.size + 1, 0, none⟩ = false ∧ w3.frozen? ⟨wr.heap.size + 1, 1, none⟩ = false ∧ w3.frozen? ⟨wr.heap.size + 1, 2, none⟩ = false ∧ w3.frozen? ⟨wr.heap.size + 1, 3, none⟩ = false ∧ w3.frozen? ⟨wr.heap.size + 1, 4, none⟩ = false := by simp [World.frozen?, hs9]
      obtain ⟨z0, z1, z2, z3, z4⟩ := z0
      obtain ⟨f0, f1, f2, f3, f4⟩ := f0
      have HS9 := Lib.hid hs9
      clear hs9
      clear hkp hpg3 hb3
      refine hK.out _ _ ((Below.cell (w := wr) (p := ⟨bL, offL + i, none⟩) (by repeat (first | exact Below.refl _ _ | exact hB9 | refine Below.drew ?_ | refine bel_new ?_ _ | refine Below.setCell ?_ (by simp <;> omega) _)) hbLw).trans hcL2) (fun hS => ?_)
      clear hK K
      try simp only [Act.put, List.setIfInBounds_toArray, List.set_cons_zero, List.set_cons_succ, List.getElem_toArray, List.getElem_cons_succ, List.getElem_cons_zero]
      refine wpAnyH_take (i := 32) (v := ?_) rfl (by kernel_rfl) (by kernel_rfl) (by kernel_rfl) (fun _ _ _ h => h) (Or.inl ⟨by rfl, ?_⟩) hS ?_
      rotate_left
      · intro w hSw; skip; go_simp; try with_reducible rfl
      try simp only [Act.put, List.setIfInBounds_toArray, List.set_cons_zero, List.set_cons_succ, List.getElem_toArray, List.getElem_cons_succ, List.getElem_cons_zero]
      refine wpAnyH_ready (rs := [34]) (by kernel_rfl) (by simp) ?_
      refine AllReadyH.cons rfl (fun K hK => ?_) AllReadyH.nil
      go_simp
      refine hK.out _ _ ((Below.cell (w := wr) (p := ⟨bL, offL + i, none⟩) (by repeat (first | exact Below.refl _ _ | exact hB9 | refine Below.drew ?_ | refine bel_new ?_ _ | refine Below.setCell ?_ (by simp <;> omega) _)) hbLw).trans hcL2) (fun hS => ?_)
      clear hK K
      try simp only [Act.put, List.setIfInBounds_toArray, List.set_cons_zero, List.set_cons_succ, List.getElem_toArray, List.getElem_cons_succ, List.getElem_cons_zero]
      refine wpAnyH_done (by kernel_rfl) ?_ _
      refine NoPanic.normal ?_
      go_wp2_with fail
      go_meet
      exact reg17_old HG2.out HI.out (by repeat (first | exact Below.refl _ _ | refine Below.drew ?_ | refine bel_new ?_ _ | refine Below.setCell ?_ (by simp <;> omega) _)) HKP.out.2.2 HKP.out.1 HKP.out.2.1 (al_snd' wr _ _) (by omega)
  · go_simp
    refine hK.out _ _ ((Below.cell (w := wr) (p := ⟨bL, offL + i, none⟩) (by repeat (first | exact Below.refl _ _ | exact hB9 | refine Below.drew ?_ | refine bel_new ?_ _ | refine Below.setCell ?_ (by simp <;> omega) _)) hbLw).trans hcL2) (fun hS => ?_)
    clear hK K
    try simp only [Act.put, List.setIfInBounds_toArray, List.set_cons_zero, List.set_cons_succ, List.getElem_toArray, List.getElem_cons_succ, List.getElem_cons_zero]
    refine wpAnyH_ready (rs := [28]) (by kernel_rfl) (by simp) ?_
    refine AllReadyH.cons rfl (fun K hK => ?_) AllReadyH.nil
    go_simp
    refine hK.out _ _ ((Below.cell (w := wr) (p := ⟨bL, offL + i, none⟩) (by repeat (first | exact Below.refl _ _ | exact hB9 | refine Below.drew ?_ | refine bel_new ?_ _ | refine Below.setCell ?_ (by simp <;> omega) _)) hbLw).trans hcL2) (fun hS => ?_)
    clear hK K
    try simp only [Act.put, List.setIfInBounds_toArray, List.set_cons_zero, List.set_cons_succ, List.getElem_toArray, List.getElem_cons_succ, List.getElem_cons_zero]
    refine wpAnyH_ready (rs := [31]) (by kernel_rfl) (by simp) ?_
    refine AllReadyH.cons rfl (fun K hK => ?_) AllReadyH.nil
    go_simp
    go_at_call 49
    refine (hP T ((li.drop lo).take M) (.slice o1 M c1') (.slice (some ⟨_, 0, none⟩) 2 2) _ _ [nmA, nmB] C R _ (HCL.out _ (by repeat (first | exact Below.refl _ _ | refine Below.drew ?_ | refine bel_new ?_ _ | refine Below.setCell ?_ (by simp <;> omega) _))) (me_at HG2.out HMN.out (by repeat (first | exact Below.refl _ _ | refine Below.drew ?_ | refine bel_new ?_ _ | refine Below.setCell ?_ (by simp <;> omega) _)) (by with_reducible exact al_snd' wr _ _))).mono ?_
    rintro e w3 ⟨p, nv, ev, pv, rfl, hkp, hpg3, hb3⟩
    obtain ⟨⟨o5, c5, e5⟩, ⟨o6, c6, e6⟩, ⟨o7, c7, e7⟩⟩ := hkp.here.form
    subst e5 e6 e7
    have hB9 : Below wr.heap.size wr w3 := bel_then (by repeat (first | exact Below.refl _ _ | refine Below.drew ?_ | refine bel_new ?_ _ | refine Below.setCell ?_ (by simp <;> omega) _)) hb3
    have HKP := Lib.hid (And.intro hkp (And.intro hpg3 hb3))
    have hs9 : w3.heap[wr.heap.size]? = some (.cells #[.slice none 0 0, .int .i64 0, .slice none 0 0, .slice none 0 0, .slice none 0 0] 45 (0, 0)) := bel_get hb3 (by with_reducible exact al_fst wr _ _)
    have z0 : w3.cell? ⟨wr.heap.size, 0, none⟩ = some (.slice none 0 0) ∧ w3.cell? ⟨wr.heap.size, 1, none⟩ = some (.int .i64 0) ∧ w3.cell? ⟨wr.heap.size, 2, none⟩ = some (.slice none 0 0) ∧ w3.cell? ⟨wr.heap.size, 3, none⟩ = some (.slice none 0 0) ∧ w3.cell? ⟨wr.heap.size, 4, none⟩ = some (.slice none 0 0) := by simp [World.cell?, hs9]
    have f0 : w3.frozen? ⟨wr.heap.size, 0, none⟩ = false ∧ w3.frozen? ⟨wr.heap.size, 1, none⟩ = false ∧ w3.frozen? ⟨wr.heap.size, 2, none⟩ = false ∧ w3.frozen? ⟨wr.heap.size, 3, none⟩ = false ∧ w3.frozen? ⟨wr.heap.size, 4, none⟩ = false := by simp [World.frozen?, hs9]
    obtain ⟨z0, z1, z2, z3, z4⟩ := z0
    obtain ⟨f0, f1, f2, f3, f4⟩ := f0
    have HS9 := Lib.hid hs9
    clear hs9
    clear hkp hpg3 hb3
    refine hK.out _ _ ((Below.cell (w := wr) (p := ⟨bL, offL + i, none⟩) (by repeat (first | exact Below.refl _ _ | exact hB9 | refine Below.drew ?_ | refine bel_new ?_ _ | refine Below.setCell ?_ (by simp <;> omega) _)) hbLw).trans hcL2) (fun hS => ?_)
    clear hK K
    try simp only [Act.put, List.setIfInBounds_toArray, List.set_cons_zero, List.set_cons_succ, List.getElem_toArray, List.getElem_cons_succ, List.getElem_cons_zero]
    refine wpAnyH_take (i := 32) (v := ?_) rfl (by kernel_rfl) (by kernel_rfl) (by kernel_rfl) (fun _ _ _ h => h) (Or.inl ⟨by rfl, ?_⟩) hS ?_
    rotate_left
    · intro w hSw; skip; go_simp; try with_reducible rfl
    try simp only [Act.put, List.setIfInBounds_toArray, List.set_cons_zero, List.set_cons_succ, List.getElem_toArray, List.getElem_cons_succ, List.getElem_cons_zero]
    refine wpAnyH_ready (rs := [34]) (by kernel_rfl) (by simp) ?_
    refine AllReadyH.cons rfl (fun K hK => ?_) AllReadyH.nil
    go_simp
    refine hK.out _ _ ((Below.cell (w := wr) (p := ⟨bL, offL + i, none⟩) (by repeat (first | exact Below.refl _ _ | exact hB9 | refine Below.drew ?_ | refine bel_new ?_ _ | refine Below.setCell ?_ (by simp <;> omega) _)) hbLw).trans hcL2) (fun hS => ?_)
    clear hK K
    try simp only [Act.put, List.setIfInBounds_toArray, List.set_cons_zero, List.set_cons_succ, List.getElem_toArray, List.getElem_cons_succ, List.getElem_cons_zero]
    refine wpAnyH_done (by kernel_rfl) ?_ _
    refine NoPanic.normal ?_
    go_wp2_with fail
    go_meet
    exact reg17_old HG2.out HI.out (by repeat (first | exact Below.refl _ _ | refine Below.drew ?_ | refine bel_new ?_ _ | refine Below.setCell ?_ (by simp <;> omega) _)) HKP.out.2.2 HKP.out.1 HKP.out.2.1 (al_fst wr _ _) (by omega)
--r17e
end Go.Proofs.Ytkmnigoikkffnaa

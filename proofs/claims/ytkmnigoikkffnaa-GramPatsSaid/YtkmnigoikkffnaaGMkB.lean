/- Merged: GMkA, GMkA7, GMkA8. -/
import Derived.Test.YtkmnigoikkffnaaGMkC
set_option linter.unusedVariables false
set_option linter.unusedSimpArgs false
namespace Go.Proofs.Ytkmnigoikkffnaa
open Go.RowKit Ru PT

set_option maxHeartbeats 20000000 in
set_option maxRecDepth 100000 in
theorem pat_arm0 (T : List TK) (l : List Int) (cl : Nat) (oi : Option Addr) (ci : Nat) (oc : Option Addr) (cc : Nat) (or : Option Addr) (cr : Nat) (I C R : List ByteArray) (w : World) : (patCore (fun n v => v < 3) T l cl oi ci oc cc or cr I C R w).1 := by
  intro ip hp0 hp1 hp2 hp3 HE Q0 K0 A0 wr u11 u12 u13 u16 u17 u18 u19 u20 u21 u22 u23 u24 u25 u26 u27 u28 u29 u30 u31 u32 u33 u34 u35 u36 u37 u38 u39 u40 u41 u42 u43 u44 u45 u46 u47 u48 u49 u50 u51 u52 u53 u54 u55 u56 u57 u58 u59 u60 u61 u62 u63 u64 u65 u66 u67 u68 u69 u70 u71 u72 u73 u74 u75 u76 u77 u78 u79 u80 u81 u82 u83 u84 u85 u86 u87 u88 u89 u90 u91 u92 u93 u94 u95 u96 u97 u98 u99 u100 u101 u102 u103 u104 u105 u106 u107 u108 u109 u110 u111 u112 u113 u114 u115 u116 u117 u118 u119 u120 u121 u122 u123 u124 u125 u126 u127 u128 u129 u130 u131 u132 u133 u134 u135 u136 u137 u138 u139 u140 u141 u142 u143 u144 u145 u146 u147 u148 u149 u150 u151 u152 u153 u154 u155 u156 u157 u158 u159 u160 u161 u162 u163 u164 u165 u166 u167 u168 u169 u170 u171 u172 u173 u174 u175 u176 u177 u178 u179 u180 u181 u182 u183 u184 u185 u186 u187 u188 u189 u190 u191 u192 u193 J0 K1 j o n c ps hn8 k v hv ev1 ev2 hd1 hd2 b off hk0 A1 hj8 hjl g A2 hjg K2 A3 K3 A4 nq wq HQ hcase
  rcases hcase with h
  have d1 : decide ((v : Int) < 3) = true := by simp; omega
  have HROW := Lib.hid (show wq.ownsRow (w.heap.size + 1) 43 4 (.slice o n c) n (ps.flatMap four) from by have := HQ.out.own.row; rw [HQ.out.len] at this; exact this)
  have HLT := Lib.hid HQ.out.lt
  go_wp2_with fail
  obtain ⟨op, np, cp, ns, hnl, hrow, hsub, hcall⟩ := pick_kp I _ (wrap64 (k.tdiv 11)) w HE.out.hI HE.out.lI.1 HE.out.lI.2
  refine (hcall _).mono ?_
  rintro e w3 ⟨rfl, rfl⟩
  subst hnl
  have HP := Lib.hid (And.intro hrow hsub)
  clear hcall hrow hsub
  go_wp2_with (at_builtin; refine wpList_append_far _ rfl _ _ 41 rfl (w.heap.size + 1) 43 ip _ 4 80 Try.underlying41 hp0 hp1 hp2 hp3 rfl (by decide) (.slice o n c) n (ps.flatMap four) rfl (by repeat (first | exact HROW.out | refine World.ownsRow.alloc ?_ _ | refine owns_drew ?_)) _ 1 _ rfl (by exact row_new rfl (by simp)) rfl (by simp [Value.oneCell']) (by unfold maxLen; omega) (by omega) (by have := HLT.out; simp; omega) ?_; intro v9 w9 hown9 hg9 hf9 hb9; obtain ⟨o9, c9, rfl⟩ := owns_slice hown9)
  obtain ⟨ps5, hS5⟩ := HQ.out.push (by repeat (first | exact Below.refl _ _ | refine Below.drew ?_ | refine bel_new ?_ _)) hown9 rfl hg9 hf9 (kp_arg HQ.out (by repeat (first | exact Below.refl _ _ | refine Below.drew ?_ | refine bel_new ?_ _)) (HP.out.1.mono fun w' hb => pt_tok hb)) (gp_tok (HE.out.nI _ HP.out.2)) (by rw [deep_mk, deeps_nil]; omega) (by rw [size_mk, sizes_nil]; omega)
  have HS5 := Lib.hid hS5
  clear hS5 hown9 hg9 hf9 hb9
  go_roundg g
  case measure => omega
  case rel => exact ⟨j + 1, o9, n + 1, c9, ps5, by omega, by simp, rfl, HS5.out⟩
set_option maxHeartbeats 20000000 in
set_option maxRecDepth 100000 in
theorem pat_arm1 (T : List TK) (l : List Int) (cl : Nat) (oi : Option Addr) (ci : Nat) (oc : Option Addr) (cc : Nat) (or : Option Addr) (cr : Nat) (I C R : List ByteArray) (w : World) : (patCore (fun n v => v = 3) T l cl oi ci oc cc or cr I C R w).1 := by
  intro ip hp0 hp1 hp2 hp3 HE Q0 K0 A0 wr u11 u12 u13 u16 u17 u18 u19 u20 u21 u22 u23 u24 u25 u26 u27 u28 u29 u30 u31 u32 u33 u34 u35 u36 u37 u38 u39 u40 u41 u42 u43 u44 u45 u46 u47 u48 u49 u50 u51 u52 u53 u54 u55 u56 u57 u58 u59 u60 u61 u62 u63 u64 u65 u66 u67 u68 u69 u70 u71 u72 u73 u74 u75 u76 u77 u78 u79 u80 u81 u82 u83 u84 u85 u86 u87 u88 u89 u90 u91 u92 u93 u94 u95 u96 u97 u98 u99 u100 u101 u102 u103 u104 u105 u106 u107 u108 u109 u110 u111 u112 u113 u114 u115 u116 u117 u118 u119 u120 u121 u122 u123 u124 u125 u126 u127 u128 u129 u130 u131 u132 u133 u134 u135 u136 u137 u138 u139 u140 u141 u142 u143 u144 u145 u146 u147 u148 u149 u150 u151 u152 u153 u154 u155 u156 u157 u158 u159 u160 u161 u162 u163 u164 u165 u166 u167 u168 u169 u170 u171 u172 u173 u174 u175 u176 u177 u178 u179 u180 u181 u182 u183 u184 u185 u186 u187 u188 u189 u190 u191 u192 u193 J0 K1 j o n c ps hn8 k v hv ev1 ev2 hd1 hd2 b off hk0 A1 hj8 hjl g A2 hjg K2 A3 K3 A4 nq wq HQ hcase
  rcases hcase with rfl
  rcases Nat.eq_zero_or_pos n with rfl | h0
  · have HROW := Lib.hid (show wq.ownsRow (w.heap.size + 1) 43 4 (.slice o 0 c) 0 (ps.flatMap four) from by have := HQ.out.own.row; rw [HQ.out.len] at this; exact this)
    have HLT := Lib.hid HQ.out.lt
    go_wp2_with (at_builtin; refine wpList_append_far _ rfl _ _ 41 rfl (w.heap.size + 1) 43 ip _ 4 80 Try.underlying41 hp0 hp1 hp2 hp3 rfl (by decide) (.slice o 0 c) 0 (ps.flatMap four) rfl (by repeat (first | exact HROW.out | refine World.ownsRow.alloc ?_ _ | refine owns_drew ?_)) _ 1 _ rfl (by exact row_new rfl (by simp)) rfl (by simp [Value.oneCell']) (by unfold maxLen; omega) (by omega) (by have := HLT.out; simp; omega) ?_; intro v9 w9 hown9 hg9 hf9 hb9; obtain ⟨o9, c9, rfl⟩ := owns_slice hown9)
    obtain ⟨ps5, hS5⟩ := HQ.out.push (by repeat (first | exact Below.refl _ _ | refine Below.drew ?_ | refine bel_new ?_ _)) hown9 rfl hg9 hf9 (fun w' _ => pt_kind 4 w') (gp_flat (.inr rfl)) (by rw [deep_mk, deeps_nil]; omega) (by rw [size_mk, sizes_nil]; omega)
    have HS5 := Lib.hid hS5
    clear hS5 hown9 hg9 hf9 hb9
    go_roundg g
    case measure => omega
    case rel => exact ⟨j + 1, o9, 0 + 1, c9, ps5, by omega, by simp, rfl, HS5.out⟩
  · have e0 : ((n : Int) == 0) = false := by simp; omega
    have HROW := Lib.hid (show wq.ownsRow (w.heap.size + 1) 43 4 (.slice o n c) n (ps.flatMap four) from by have := HQ.out.own.row; rw [HQ.out.len] at this; exact this)
    have HLT := Lib.hid HQ.out.lt
    go_wp2_with (at_builtin; refine wpList_append_far _ rfl _ _ 41 rfl (w.heap.size + 1) 43 ip _ 4 80 Try.underlying41 hp0 hp1 hp2 hp3 rfl (by decide) (.slice o n c) n (ps.flatMap four) rfl (by repeat (first | exact HROW.out | refine World.ownsRow.alloc ?_ _ | refine owns_drew ?_)) _ 1 _ rfl (by exact row_new rfl (by simp)) rfl (by simp [Value.oneCell']) (by unfold maxLen; omega) (by omega) (by have := HLT.out; simp; omega) ?_; intro v9 w9 hown9 hg9 hf9 hb9; obtain ⟨o9, c9, rfl⟩ := owns_slice hown9)
    obtain ⟨ps5, hS5⟩ := HQ.out.push (by repeat (first | exact Below.refl _ _ | refine Below.drew ?_ | refine bel_new ?_ _)) hown9 rfl hg9 hf9 (fun w' _ => pt_kind 4 w') (gp_flat (.inr rfl)) (by rw [deep_mk, deeps_nil]; omega) (by rw [size_mk, sizes_nil]; omega)
    have HS5 := Lib.hid hS5
    clear hS5 hown9 hg9 hf9 hb9
    go_roundg g
    case measure => omega
    case rel => exact ⟨j + 1, o9, n + 1, c9, ps5, by omega, by simp, rfl, HS5.out⟩
set_option maxHeartbeats 20000000 in
set_option maxRecDepth 100000 in
theorem pat_arm2 (T : List TK) (l : List Int) (cl : Nat) (oi : Option Addr) (ci : Nat) (oc : Option Addr) (cc : Nat) (or : Option Addr) (cr : Nat) (I C R : List ByteArray) (w : World) : (patCore (fun n v => v = 4) T l cl oi ci oc cc or cr I C R w).1 := by
  intro ip hp0 hp1 hp2 hp3 HE Q0 K0 A0 wr u11 u12 u13 u16 u17 u18 u19 u20 u21 u22 u23 u24 u25 u26 u27 u28 u29 u30 u31 u32 u33 u34 u35 u36 u37 u38 u39 u40 u41 u42 u43 u44 u45 u46 u47 u48 u49 u50 u51 u52 u53 u54 u55 u56 u57 u58 u59 u60 u61 u62 u63 u64 u65 u66 u67 u68 u69 u70 u71 u72 u73 u74 u75 u76 u77 u78 u79 u80 u81 u82 u83 u84 u85 u86 u87 u88 u89 u90 u91 u92 u93 u94 u95 u96 u97 u98 u99 u100 u101 u102 u103 u104 u105 u106 u107 u108 u109 u110 u111 u112 u113 u114 u115 u116 u117 u118 u119 u120 u121 u122 u123 u124 u125 u126 u127 u128 u129 u130 u131 u132 u133 u134 u135 u136 u137 u138 u139 u140 u141 u142 u143 u144 u145 u146 u147 u148 u149 u150 u151 u152 u153 u154 u155 u156 u157 u158 u159 u160 u161 u162 u163 u164 u165 u166 u167 u168 u169 u170 u171 u172 u173 u174 u175 u176 u177 u178 u179 u180 u181 u182 u183 u184 u185 u186 u187 u188 u189 u190 u191 u192 u193 J0 K1 j o n c ps hn8 k v hv ev1 ev2 hd1 hd2 b off hk0 A1 hj8 hjl g A2 hjg K2 A3 K3 A4 nq wq HQ hcase
  rcases hcase with rfl
  rcases Nat.eq_zero_or_pos n with rfl | h0
  · have HROW := Lib.hid (show wq.ownsRow (w.heap.size + 1) 43 4 (.slice o 0 c) 0 (ps.flatMap four) from by have := HQ.out.own.row; rw [HQ.out.len] at this; exact this)
    have HLT := Lib.hid HQ.out.lt
    go_wp2_with (at_builtin; refine wpList_append_far _ rfl _ _ 41 rfl (w.heap.size + 1) 43 ip _ 4 80 Try.underlying41 hp0 hp1 hp2 hp3 rfl (by decide) (.slice o 0 c) 0 (ps.flatMap four) rfl (by repeat (first | exact HROW.out | refine World.ownsRow.alloc ?_ _ | refine owns_drew ?_)) _ 1 _ rfl (by exact row_new rfl (by simp)) rfl (by simp [Value.oneCell']) (by unfold maxLen; omega) (by omega) (by have := HLT.out; simp; omega) ?_; intro v9 w9 hown9 hg9 hf9 hb9; obtain ⟨o9, c9, rfl⟩ := owns_slice hown9)
    obtain ⟨ps5, hS5⟩ := HQ.out.push (by repeat (first | exact Below.refl _ _ | refine Below.drew ?_ | refine bel_new ?_ _)) hown9 rfl hg9 hf9 (fun w' _ => pt_kind 1 w') (gp_flat (.inl rfl)) (by rw [deep_mk, deeps_nil]; omega) (by rw [size_mk, sizes_nil]; omega)
    have HS5 := Lib.hid hS5
    clear hS5 hown9 hg9 hf9 hb9
    go_roundg g
    case measure => omega
    case rel => exact ⟨j + 1, o9, 0 + 1, c9, ps5, by omega, by simp, rfl, HS5.out⟩
  · have e0 : ((n : Int) == 0) = false := by simp; omega
    have HROW := Lib.hid (show wq.ownsRow (w.heap.size + 1) 43 4 (.slice o n c) n (ps.flatMap four) from by have := HQ.out.own.row; rw [HQ.out.len] at this; exact this)
    have HLT := Lib.hid HQ.out.lt
    go_wp2_with (at_builtin; refine wpList_append_far _ rfl _ _ 41 rfl (w.heap.size + 1) 43 ip _ 4 80 Try.underlying41 hp0 hp1 hp2 hp3 rfl (by decide) (.slice o n c) n (ps.flatMap four) rfl (by repeat (first | exact HROW.out | refine World.ownsRow.alloc ?_ _ | refine owns_drew ?_)) _ 1 _ rfl (by exact row_new rfl (by simp)) rfl (by simp [Value.oneCell']) (by unfold maxLen; omega) (by omega) (by have := HLT.out; simp; omega) ?_; intro v9 w9 hown9 hg9 hf9 hb9; obtain ⟨o9, c9, rfl⟩ := owns_slice hown9)
    obtain ⟨ps5, hS5⟩ := HQ.out.push (by repeat (first | exact Below.refl _ _ | refine Below.drew ?_ | refine bel_new ?_ _)) hown9 rfl hg9 hf9 (fun w' _ => pt_kind 1 w') (gp_flat (.inl rfl)) (by rw [deep_mk, deeps_nil]; omega) (by rw [size_mk, sizes_nil]; omega)
    have HS5 := Lib.hid hS5
    clear hS5 hown9 hg9 hf9 hb9
    go_roundg g
    case measure => omega
    case rel => exact ⟨j + 1, o9, n + 1, c9, ps5, by omega, by simp, rfl, HS5.out⟩
set_option maxHeartbeats 20000000 in
set_option maxRecDepth 100000 in
theorem pat_arm4 (T : List TK) (l : List Int) (cl : Nat) (oi : Option Addr) (ci : Nat) (oc : Option Addr) (cc : Nat) (or : Option Addr) (cr : Nat) (I C R : List ByteArray) (w : World) : (patCore (fun n v => n = 0 ∧ 5 < v) T l cl oi ci oc cc or cr I C R w).1 := by
  intro ip hp0 hp1 hp2 hp3 HE Q0 K0 A0 wr u11 u12 u13 u16 u17 u18 u19 u20 u21 u22 u23 u24 u25 u26 u27 u28 u29 u30 u31 u32 u33 u34 u35 u36 u37 u38 u39 u40 u41 u42 u43 u44 u45 u46 u47 u48 u49 u50 u51 u52 u53 u54 u55 u56 u57 u58 u59 u60 u61 u62 u63 u64 u65 u66 u67 u68 u69 u70 u71 u72 u73 u74 u75 u76 u77 u78 u79 u80 u81 u82 u83 u84 u85 u86 u87 u88 u89 u90 u91 u92 u93 u94 u95 u96 u97 u98 u99 u100 u101 u102 u103 u104 u105 u106 u107 u108 u109 u110 u111 u112 u113 u114 u115 u116 u117 u118 u119 u120 u121 u122 u123 u124 u125 u126 u127 u128 u129 u130 u131 u132 u133 u134 u135 u136 u137 u138 u139 u140 u141 u142 u143 u144 u145 u146 u147 u148 u149 u150 u151 u152 u153 u154 u155 u156 u157 u158 u159 u160 u161 u162 u163 u164 u165 u166 u167 u168 u169 u170 u171 u172 u173 u174 u175 u176 u177 u178 u179 u180 u181 u182 u183 u184 u185 u186 u187 u188 u189 u190 u191 u192 u193 J0 K1 j o n c ps hn8 k v hv ev1 ev2 hd1 hd2 b off hk0 A1 hj8 hjl g A2 hjg K2 A3 K3 A4 nq wq HQ hcase
  rcases hcase with ⟨rfl, h⟩
  have d1 : decide ((v : Int) < 3) = false := by simp; omega
  have d2 : decide ((5 : Int) < (v : Int)) = true := by simp; omega
  have HROW := Lib.hid (show wq.ownsRow (w.heap.size + 1) 43 4 (.slice o 0 c) 0 (ps.flatMap four) from by have := HQ.out.own.row; rw [HQ.out.len] at this; exact this)
  have HLT := Lib.hid HQ.out.lt
  go_wp2_with fail
  obtain ⟨op, np, cp, ns, hnl, hrow, hsub, hcall⟩ := pick_kp I _ (wrap64 (k.tdiv 11)) w HE.out.hI HE.out.lI.1 HE.out.lI.2
  refine (hcall _).mono ?_
  rintro e w3 ⟨rfl, rfl⟩
  subst hnl
  have HP := Lib.hid (And.intro hrow hsub)
  clear hcall hrow hsub
  go_wp2_with (at_builtin; refine wpList_append_far _ rfl _ _ 41 rfl (w.heap.size + 1) 43 ip _ 4 80 Try.underlying41 hp0 hp1 hp2 hp3 rfl (by decide) (.slice o 0 c) 0 (ps.flatMap four) rfl (by repeat (first | exact HROW.out | refine World.ownsRow.alloc ?_ _ | refine owns_drew ?_)) _ 1 _ rfl (by exact row_new rfl (by simp)) rfl (by simp [Value.oneCell']) (by unfold maxLen; omega) (by omega) (by have := HLT.out; simp; omega) ?_; intro v9 w9 hown9 hg9 hf9 hb9; obtain ⟨o9, c9, rfl⟩ := owns_slice hown9)
  obtain ⟨ps5, hS5⟩ := HQ.out.push (by repeat (first | exact Below.refl _ _ | refine Below.drew ?_ | refine bel_new ?_ _)) hown9 rfl hg9 hf9 (kp_arg HQ.out (by repeat (first | exact Below.refl _ _ | refine Below.drew ?_ | refine bel_new ?_ _)) (HP.out.1.mono fun w' hb => pt_tok hb)) (gp_tok (HE.out.nI _ HP.out.2)) (by rw [deep_mk, deeps_nil]; omega) (by rw [size_mk, sizes_nil]; omega)
  have HS5 := Lib.hid hS5
  clear hS5 hown9 hg9 hf9 hb9
  go_roundg g
  case measure => omega
  case rel => exact ⟨j + 1, o9, 0 + 1, c9, ps5, by omega, by simp, rfl, HS5.out⟩
set_option maxHeartbeats 20000000 in
set_option maxRecDepth 100000 in
theorem pat_arm5 (T : List TK) (l : List Int) (cl : Nat) (oi : Option Addr) (ci : Nat) (oc : Option Addr) (cc : Nat) (or : Option Addr) (cr : Nat) (I C R : List ByteArray) (w : World) : (patCore (fun n v => 0 < n ∧ v = 6) T l cl oi ci oc cc or cr I C R w).1 := by
  intro ip hp0 hp1 hp2 hp3 HE Q0 K0 A0 wr u11 u12 u13 u16 u17 u18 u19 u20 u21 u22 u23 u24 u25 u26 u27 u28 u29 u30 u31 u32 u33 u34 u35 u36 u37 u38 u39 u40 u41 u42 u43 u44 u45 u46 u47 u48 u49 u50 u51 u52 u53 u54 u55 u56 u57 u58 u59 u60 u61 u62 u63 u64 u65 u66 u67 u68 u69 u70 u71 u72 u73 u74 u75 u76 u77 u78 u79 u80 u81 u82 u83 u84 u85 u86 u87 u88 u89 u90 u91 u92 u93 u94 u95 u96 u97 u98 u99 u100 u101 u102 u103 u104 u105 u106 u107 u108 u109 u110 u111 u112 u113 u114 u115 u116 u117 u118 u119 u120 u121 u122 u123 u124 u125 u126 u127 u128 u129 u130 u131 u132 u133 u134 u135 u136 u137 u138 u139 u140 u141 u142 u143 u144 u145 u146 u147 u148 u149 u150 u151 u152 u153 u154 u155 u156 u157 u158 u159 u160 u161 u162 u163 u164 u165 u166 u167 u168 u169 u170 u171 u172 u173 u174 u175 u176 u177 u178 u179 u180 u181 u182 u183 u184 u185 u186 u187 u188 u189 u190 u191 u192 u193 J0 K1 j o n c ps hn8 k v hv ev1 ev2 hd1 hd2 b off hk0 A1 hj8 hjl g A2 hjg K2 A3 K3 A4 nq wq HQ hcase
  rcases hcase with ⟨h, rfl⟩
  obtain ⟨m, rfl⟩ : ∃ m, n = m + 1 := ⟨n - 1, by omega⟩
  obtain ⟨ps', q, rfl⟩ : ∃ ps' q, ps = ps' ++ [q] := last_of (by have := HQ.out.len; omega)
  obtain ⟨g5, rfl, hg1, hg2, hnc, hfz, hcl⟩ := HQ.out.own_cells (by omega)
  obtain ⟨x0, x1, x2, x3⟩ := hcl m q (by have h9 := HQ.out.len; simp at h9; subst h9; simp)
  have z0 := hfz (m * 4)
  have z1 := hfz (m * 4 + 1)
  have z2 := hfz (m * 4 + 2)
  have z3 := hfz (m * 4 + 3)
  have hm0 : (0 : Int) ≤ (m : Int) := by omega
  have hm1 : (m : Int) < (m : Int) + 1 := by omega
  have n0 : ¬ g5 = wq.heap.size := by omega
  clear hcl hfz
  have e0 : ((m : Int) + 1 == 0) = false := by simp; omega
  have e1 : decide ((0 : Int) < (m : Int) + 1) = true := by simp
  go_wp2_with fail
  obtain ⟨w5, hw5⟩ : ∃ w5, w5 = ((((wq.setCell ⟨g5, m * 4, none⟩ (.int .i64 7)).setCell ⟨g5, m * 4 + 1, none⟩ (.slice none 0 0)).setCell ⟨g5, m * 4 + 2, none⟩ (.slice none 0 0)).setCell ⟨g5, m * 4 + 3, none⟩ (.slice (some ⟨wq.heap.size, 0, none⟩) 1 1)).alloc (.cells #[.int .i64 q.1.kind, q.2.1, q.2.2.1, q.2.2.2] 43) := ⟨_, rfl⟩
  rw [← hw5]
  have hbX : Below wq.heap.size wq (wq.alloc (.cells #[.int .i64 q.1.kind, q.2.1, q.2.2.1, q.2.2.2] 43)) := bel_new (Below.refl _ _) _
  have hS5 := HQ.out.over hbX (hw5.trans (set4_alloc hg2).symm) (p := .mk 7 [] [] [q.1]) (nv := .slice none 0 0) (ev := .slice none 0 0) (lv := .slice (some ⟨wq.heap.size, 0, none⟩) 1 1)
    (kp_and ((HQ.out.own.keep q (by simp)).to (.of hbX)) (KP.block (heap_alloc_new wq _) ⟨⟨.inl (by have := HQ.out.lt; omega), by have := HQ.out.lt; omega⟩, fun e => by simp [Value.ownBlock] at e; omega⟩) (fun w' h1 h2 => pt_one (ns := []) (es := []) (Row.nil _) (Row.nil _) h1 h2))
    (gp_star (HQ.out.stk.good q.1 (by simp))) (by rw [deep_mk, deeps_cons, deeps_nil]; omega) (by rw [size_mk, sizes_cons, sizes_nil])
  have HS5 := Lib.hid hS5
  clear hS5 hw5 hbX
  go_roundg g
  case measure => omega
  case rel => exact ⟨j + 1, _, m + 1, c, _, by omega, by simp, rfl, HS5.out⟩
set_option maxHeartbeats 20000000 in
set_option maxRecDepth 100000 in
theorem pat_arm6 (T : List TK) (l : List Int) (cl : Nat) (oi : Option Addr) (ci : Nat) (oc : Option Addr) (cc : Nat) (or : Option Addr) (cr : Nat) (I C R : List ByteArray) (w : World) : (patCore (fun n v => n = 1 ∧ 7 < v) T l cl oi ci oc cc or cr I C R w).1 := by
  intro ip hp0 hp1 hp2 hp3 HE Q0 K0 A0 wr u11 u12 u13 u16 u17 u18 u19 u20 u21 u22 u23 u24 u25 u26 u27 u28 u29 u30 u31 u32 u33 u34 u35 u36 u37 u38 u39 u40 u41 u42 u43 u44 u45 u46 u47 u48 u49 u50 u51 u52 u53 u54 u55 u56 u57 u58 u59 u60 u61 u62 u63 u64 u65 u66 u67 u68 u69 u70 u71 u72 u73 u74 u75 u76 u77 u78 u79 u80 u81 u82 u83 u84 u85 u86 u87 u88 u89 u90 u91 u92 u93 u94 u95 u96 u97 u98 u99 u100 u101 u102 u103 u104 u105 u106 u107 u108 u109 u110 u111 u112 u113 u114 u115 u116 u117 u118 u119 u120 u121 u122 u123 u124 u125 u126 u127 u128 u129 u130 u131 u132 u133 u134 u135 u136 u137 u138 u139 u140 u141 u142 u143 u144 u145 u146 u147 u148 u149 u150 u151 u152 u153 u154 u155 u156 u157 u158 u159 u160 u161 u162 u163 u164 u165 u166 u167 u168 u169 u170 u171 u172 u173 u174 u175 u176 u177 u178 u179 u180 u181 u182 u183 u184 u185 u186 u187 u188 u189 u190 u191 u192 u193 J0 K1 j o n c ps hn8 k v hv ev1 ev2 hd1 hd2 b off hk0 A1 hj8 hjl g A2 hjg K2 A3 K3 A4 nq wq HQ hcase
  rcases hcase with ⟨h1, h⟩
  have d1 : decide ((v : Int) < 3) = false := by simp; omega
  have d2 : decide ((5 : Int) < (v : Int)) = true := by simp; omega
  have d3 : decide ((7 : Int) < (v : Int)) = true := by simp; omega
  have v3 : ((v : Int) == 3) = false := by simp; omega
  have v4 : ((v : Int) == 4) = false := by simp; omega
  have v5 : ((v : Int) == 5) = false := by simp; omega
  have v6 : ((v : Int) == 6) = false := by simp; omega
  obtain ⟨m, rfl⟩ : ∃ m, n = m + 1 := ⟨n - 1, by omega⟩
  obtain ⟨ps', q, rfl⟩ : ∃ ps' q, ps = ps' ++ [q] := last_of (by have := HQ.out.len; omega)
  obtain ⟨g5, rfl, hg1, hg2, hnc, hfz, hcl⟩ := HQ.out.own_cells (by omega)
  obtain ⟨x0, x1, x2, x3⟩ := hcl m q (by have h9 := HQ.out.len; simp at h9; subst h9; simp)
  have z0 := hfz (m * 4)
  have z1 := hfz (m * 4 + 1)
  have z2 := hfz (m * 4 + 2)
  have z3 := hfz (m * 4 + 3)
  have hm0 : (0 : Int) ≤ (m : Int) := by omega
  have hm1 : (m : Int) < (m : Int) + 1 := by omega
  have n0 : ¬ g5 = wq.heap.size := by omega
  clear hcl hfz
  have e0 : ((m : Int) + 1 == 0) = false := by simp; omega
  have e1 : decide ((0 : Int) < (m : Int) + 1) = true := by simp
  have e2 : decide ((m : Int) + 1 < 2) = true := by simp; omega
  clear h1
  go_wp2_with fail
  obtain ⟨w5, hw5⟩ : ∃ w5, w5 = ((((wq.setCell ⟨g5, m * 4, none⟩ (.int .i64 7)).setCell ⟨g5, m * 4 + 1, none⟩ (.slice none 0 0)).setCell ⟨g5, m * 4 + 2, none⟩ (.slice none 0 0)).setCell ⟨g5, m * 4 + 3, none⟩ (.slice (some ⟨wq.heap.size, 0, none⟩) 1 1)).alloc (.cells #[.int .i64 q.1.kind, q.2.1, q.2.2.1, q.2.2.2] 43) := ⟨_, rfl⟩
  rw [← hw5]
  have hbX : Below wq.heap.size wq (wq.alloc (.cells #[.int .i64 q.1.kind, q.2.1, q.2.2.1, q.2.2.2] 43)) := bel_new (Below.refl _ _) _
  have hS5 := HQ.out.over hbX (hw5.trans (set4_alloc hg2).symm) (p := .mk 7 [] [] [q.1]) (nv := .slice none 0 0) (ev := .slice none 0 0) (lv := .slice (some ⟨wq.heap.size, 0, none⟩) 1 1)
    (kp_and ((HQ.out.own.keep q (by simp)).to (.of hbX)) (KP.block (heap_alloc_new wq _) ⟨⟨.inl (by have := HQ.out.lt; omega), by have := HQ.out.lt; omega⟩, fun e => by simp [Value.ownBlock] at e; omega⟩) (fun w' h1 h2 => pt_one (ns := []) (es := []) (Row.nil _) (Row.nil _) h1 h2))
    (gp_star (HQ.out.stk.good q.1 (by simp))) (by rw [deep_mk, deeps_cons, deeps_nil]; omega) (by rw [size_mk, sizes_cons, sizes_nil])
  have HS5 := Lib.hid hS5
  clear hS5 hw5 hbX
  go_roundg g
  case measure => omega
  case rel => exact ⟨j + 1, _, m + 1, c, _, by omega, by simp, rfl, HS5.out⟩
end Go.Proofs.Ytkmnigoikkffnaa

namespace Go.Proofs.Ytkmnigoikkffnaa
open Go.RowKit Ru PT

set_option maxHeartbeats 20000000 in
set_option maxRecDepth 100000 in
theorem pat_arm7 (T : List TK) (l : List Int) (cl : Nat) (oi : Option Addr) (ci : Nat) (oc : Option Addr) (cc : Nat) (or : Option Addr) (cr : Nat) (I C R : List ByteArray) (w : World) : (patCore (fun n v => 0 < n ∧ v = 7) T l cl oi ci oc cc or cr I C R w).1 := by
  intro ip hp0 hp1 hp2 hp3 HE Q0 K0 A0 wr u11 u12 u13 u16 u17 u18 u19 u20 u21 u22 u23 u24 u25 u26 u27 u28 u29 u30 u31 u32 u33 u34 u35 u36 u37 u38 u39 u40 u41 u42 u43 u44 u45 u46 u47 u48 u49 u50 u51 u52 u53 u54 u55 u56 u57 u58 u59 u60 u61 u62 u63 u64 u65 u66 u67 u68 u69 u70 u71 u72 u73 u74 u75 u76 u77 u78 u79 u80 u81 u82 u83 u84 u85 u86 u87 u88 u89 u90 u91 u92 u93 u94 u95 u96 u97 u98 u99 u100 u101 u102 u103 u104 u105 u106 u107 u108 u109 u110 u111 u112 u113 u114 u115 u116 u117 u118 u119 u120 u121 u122 u123 u124 u125 u126 u127 u128 u129 u130 u131 u132 u133 u134 u135 u136 u137 u138 u139 u140 u141 u142 u143 u144 u145 u146 u147 u148 u149 u150 u151 u152 u153 u154 u155 u156 u157 u158 u159 u160 u161 u162 u163 u164 u165 u166 u167 u168 u169 u170 u171 u172 u173 u174 u175 u176 u177 u178 u179 u180 u181 u182 u183 u184 u185 u186 u187 u188 u189 u190 u191 u192 u193 J0 K1 j o n c ps hn8 k v hv ev1 ev2 hd1 hd2 b off hk0 A1 hj8 hjl g A2 hjg K2 A3 K3 A4 nq wq HQ hcase
  rcases hcase with ⟨h, rfl⟩
  obtain ⟨m, rfl⟩ : ∃ m, n = m + 1 := ⟨n - 1, by omega⟩
  obtain ⟨ps', q, rfl⟩ : ∃ ps' q, ps = ps' ++ [q] := last_of (by have := HQ.out.len; omega)
  obtain ⟨g5, rfl, hg1, hg2, hnc, hfz, hcl⟩ := HQ.out.own_cells (by omega)
  obtain ⟨x0, x1, x2, x3⟩ := hcl m q (by have h9 := HQ.out.len; simp at h9; subst h9; simp)
  have z0 := hfz (m * 4)
  have z1 := hfz (m * 4 + 1)
  have z2 := hfz (m * 4 + 2)
  have z3 := hfz (m * 4 + 3)
  have hm0 : (0 : Int) ≤ (m : Int) := by omega
  have hm1 : (m : Int) < (m : Int) + 1 := by omega
  have n0 : ¬ g5 = wq.heap.size := by omega
  clear hcl hfz
  by_cases h2 : (m : Int) + 1 < 2
  · have e2 : decide ((m : Int) + 1 < 2) = true := by simpa using h2
    clear h2
    have e0 : ((m : Int) + 1 == 0) = false := by simp; omega
    have e1 : decide ((0 : Int) < (m : Int) + 1) = true := by simp
    obtain ⟨x11, hx11⟩ : ∃ x, IntKind.i64.wrap (k.tdiv 11) = x := ⟨_, rfl⟩
    obtain ⟨x13, hx13⟩ : ∃ x, IntKind.i64.wrap (k.tdiv 13) = x := ⟨_, rfl⟩
    obtain ⟨op, np, cp, ns, hnl, hrow, hsub, hcall⟩ := pick_kp C _ x11 w HE.out.hC HE.out.lC.1 HE.out.lC.2
    obtain ⟨oq, nr, cq, es, hnl2, hrow2, hsub2, hcall2⟩ := pick_kp R _ x13 w HE.out.hR HE.out.lR.1 HE.out.lR.2
    subst hnl hnl2
    have HP := Lib.hid (And.intro hrow (And.intro hsub (And.intro hrow2 hsub2)))
    clear hrow hsub hrow2 hsub2
    have hm2 : (0 : Int) ≤ (m : Int) + 1 := by omega
    go_upto_region 18 with (fail)
    have w1 : IntKind.i64.wrap (m : Int) = (m : Int) := IntWalk.i64_in _ (by omega)
    go_region_law (first
        | (go_simp; go_at_call 50; (first | with_reducible refine (hcall _).mono ?_ | with_reducible refine (hcall2 _).mono ?_); rintro e w3 ⟨rfl, rfl⟩))
    all_goals (
      obtain ⟨w5, hw5⟩ : ∃ w5, w5 = ((((wq.setCell ⟨g5, m * 4, none⟩ (.int .i64 3)).setCell ⟨g5, m * 4 + 1, none⟩ (.slice op ns.length cp)).setCell ⟨g5, m * 4 + 2, none⟩ (.slice oq es.length cq)).setCell ⟨g5, m * 4 + 3, none⟩ (.slice (some ⟨wq.heap.size, 0, none⟩) 1 1)).alloc (.cells #[.int .i64 q.1.kind, q.2.1, q.2.2.1, q.2.2.2] 43) := ⟨_, rfl⟩
      rw [← hw5]
      have hbX : Below wq.heap.size wq (wq.alloc (.cells #[.int .i64 q.1.kind, q.2.1, q.2.2.1, q.2.2.2] 43)) := bel_new (Below.refl _ _) _
      have hS5 := HQ.out.over hbX (hw5.trans (set4_alloc hg2).symm) (p := .mk 3 ns es [q.1]) (nv := .slice op ns.length cp) (ev := .slice oq es.length cq) (lv := .slice (some ⟨wq.heap.size, 0, none⟩) 1 1)
        (kp_and (kp_arg HQ.out hbX (kp_and HP.out.1 HP.out.2.2.1 (fun w' h1 h2 => And.intro h1 h2))) (kp_and ((HQ.out.own.keep q (by simp)).to (.of hbX)) (KP.block (heap_alloc_new wq _) ⟨⟨.inl (by have := HQ.out.lt; omega), by have := HQ.out.lt; omega⟩, fun e => by simp [Value.ownBlock] at e; omega⟩) (fun w' h1 h2 => And.intro h1 h2)) (fun w' h1 h2 => pt_one h1.1 h1.2 h2.1 h2.2))
        (gp_in (HE.out.nC _ HP.out.2.1) (HE.out.nR _ HP.out.2.2.2) (HQ.out.stk.good q.1 (by simp))) (by rw [deep_mk, deeps_cons, deeps_nil]; omega) (by rw [size_mk, sizes_cons, sizes_nil])
      have HS5 := Lib.hid (hS5.moved (Below.refl _ _).drew)
      clear hS5 hw5 hbX
      go_wp2
      go_roundg g
      case measure => omega
      case rel => exact ⟨j + 1, _, m + 1, c, _, by omega, by simp, rfl, HS5.out⟩)
  · have e2 : decide ((m : Int) + 1 < 2) = false := by simpa using h2
    clear h2
    have e0 : ((m : Int) + 1 == 0) = false := by simp; omega
    have e1 : decide ((0 : Int) < (m : Int) + 1) = true := by simp
    obtain ⟨x11, hx11⟩ : ∃ x, IntKind.i64.wrap (k.tdiv 11) = x := ⟨_, rfl⟩
    obtain ⟨x13, hx13⟩ : ∃ x, IntKind.i64.wrap (k.tdiv 13) = x := ⟨_, rfl⟩
    obtain ⟨op, np, cp, ns, hnl, hrow, hsub, hcall⟩ := pick_kp C _ x11 w HE.out.hC HE.out.lC.1 HE.out.lC.2
    obtain ⟨oq, nr, cq, es, hnl2, hrow2, hsub2, hcall2⟩ := pick_kp R _ x13 w HE.out.hR HE.out.lR.1 HE.out.lR.2
    subst hnl hnl2
    have HP := Lib.hid (And.intro hrow (And.intro hsub (And.intro hrow2 hsub2)))
    clear hrow hsub hrow2 hsub2
    have hm2 : (0 : Int) ≤ (m : Int) + 1 := by omega
    go_upto_region 18 with (fail)
    have w1 : IntKind.i64.wrap (m : Int) = (m : Int) := IntWalk.i64_in _ (by omega)
    go_region_law (first
        | (go_simp; go_at_call 50; (first | with_reducible refine (hcall _).mono ?_ | with_reducible refine (hcall2 _).mono ?_); rintro e w3 ⟨rfl, rfl⟩))
    all_goals (
      obtain ⟨w5, hw5⟩ : ∃ w5, w5 = ((((wq.setCell ⟨g5, m * 4, none⟩ (.int .i64 3)).setCell ⟨g5, m * 4 + 1, none⟩ (.slice op ns.length cp)).setCell ⟨g5, m * 4 + 2, none⟩ (.slice oq es.length cq)).setCell ⟨g5, m * 4 + 3, none⟩ (.slice (some ⟨wq.heap.size, 0, none⟩) 1 1)).alloc (.cells #[.int .i64 q.1.kind, q.2.1, q.2.2.1, q.2.2.2] 43) := ⟨_, rfl⟩
      rw [← hw5]
      have hbX : Below wq.heap.size wq (wq.alloc (.cells #[.int .i64 q.1.kind, q.2.1, q.2.2.1, q.2.2.2] 43)) := bel_new (Below.refl _ _) _
      have hS5 := HQ.out.over hbX (hw5.trans (set4_alloc hg2).symm) (p := .mk 3 ns es [q.1]) (nv := .slice op ns.length cp) (ev := .slice oq es.length cq) (lv := .slice (some ⟨wq.heap.size, 0, none⟩) 1 1)
        (kp_and (kp_arg HQ.out hbX (kp_and HP.out.1 HP.out.2.2.1 (fun w' h1 h2 => And.intro h1 h2))) (kp_and ((HQ.out.own.keep q (by simp)).to (.of hbX)) (KP.block (heap_alloc_new wq _) ⟨⟨.inl (by have := HQ.out.lt; omega), by have := HQ.out.lt; omega⟩, fun e => by simp [Value.ownBlock] at e; omega⟩) (fun w' h1 h2 => And.intro h1 h2)) (fun w' h1 h2 => pt_one h1.1 h1.2 h2.1 h2.2))
        (gp_in (HE.out.nC _ HP.out.2.1) (HE.out.nR _ HP.out.2.2.2) (HQ.out.stk.good q.1 (by simp))) (by rw [deep_mk, deeps_cons, deeps_nil]; omega) (by rw [size_mk, sizes_cons, sizes_nil])
      have HS5 := Lib.hid (hS5.moved (Below.refl _ _).drew)
      clear hS5 hw5 hbX
      go_wp2
      go_roundg g
      case measure => omega
      case rel => exact ⟨j + 1, _, m + 1, c, _, by omega, by simp, rfl, HS5.out⟩)
end Go.Proofs.Ytkmnigoikkffnaa

namespace Go.Proofs.Ytkmnigoikkffnaa
open Go.RowKit Ru PT

set_option maxHeartbeats 20000000 in
set_option maxRecDepth 100000 in
theorem pat_arm8 (T : List TK) (l : List Int) (cl : Nat) (oi : Option Addr) (ci : Nat) (oc : Option Addr) (cc : Nat) (or : Option Addr) (cr : Nat) (I C R : List ByteArray) (w : World) : (patCore (fun n v => 1 < n ∧ (v = 8 ∨ v = 9)) T l cl oi ci oc cc or cr I C R w).1 := by
  intro ip hp0 hp1 hp2 hp3 HE Q0 K0 A0 wr u11 u12 u13 u16 u17 u18 u19 u20 u21 u22 u23 u24 u25 u26 u27 u28 u29 u30 u31 u32 u33 u34 u35 u36 u37 u38 u39 u40 u41 u42 u43 u44 u45 u46 u47 u48 u49 u50 u51 u52 u53 u54 u55 u56 u57 u58 u59 u60 u61 u62 u63 u64 u65 u66 u67 u68 u69 u70 u71 u72 u73 u74 u75 u76 u77 u78 u79 u80 u81 u82 u83 u84 u85 u86 u87 u88 u89 u90 u91 u92 u93 u94 u95 u96 u97 u98 u99 u100 u101 u102 u103 u104 u105 u106 u107 u108 u109 u110 u111 u112 u113 u114 u115 u116 u117 u118 u119 u120 u121 u122 u123 u124 u125 u126 u127 u128 u129 u130 u131 u132 u133 u134 u135 u136 u137 u138 u139 u140 u141 u142 u143 u144 u145 u146 u147 u148 u149 u150 u151 u152 u153 u154 u155 u156 u157 u158 u159 u160 u161 u162 u163 u164 u165 u166 u167 u168 u169 u170 u171 u172 u173 u174 u175 u176 u177 u178 u179 u180 u181 u182 u183 u184 u185 u186 u187 u188 u189 u190 u191 u192 u193 J0 K1 j o n c ps hn8 k v hv ev1 ev2 hd1 hd2 b off hk0 A1 hj8 hjl g A2 hjg K2 A3 K3 A4 nq wq HQ hcase
  rcases hcase with ⟨h, h2⟩
  obtain rfl | rfl := h2
  · obtain ⟨m, rfl⟩ : ∃ m, n = m + 2 := ⟨n - 2, by omega⟩
    obtain ⟨ps1, r, rfl⟩ : ∃ ps1 r, ps = ps1 ++ [r] := last_of (by have := HQ.out.len; omega)
    obtain ⟨ps', q, rfl⟩ : ∃ ps' q, ps1 = ps' ++ [q] := last_of (by have := HQ.out.len; simp at this; omega)
    have HQ2 := Lib.hid (show SK T w j o (m + 2) c (ps' ++ [q, r]) wq by have := HQ.out; simpa using this)
    clear HQ
    obtain ⟨g5, rfl, hg1, hg2, hnc, hfz, hcl⟩ := HQ2.out.own_cells (by omega)
    have hpm : ps'.length = m := by have := HQ2.out.len; simp at this; omega
    obtain ⟨x0, x1, x2, x3⟩ := hcl m q (by subst hpm; simp)
    obtain ⟨y0, y1, y2, y3⟩ := hcl (m + 1) r (by subst hpm; simp)
    have HXC := Lib.hid (show ∀ w', Below wq.heap.size wq w' → ∀ i u, (ps'.flatMap four)[i]? = some u → w'.cell? ⟨g5, 0 + i, none⟩ = some u by
      intro w' hb i u hi
      have hr := HQ2.out.own.row
      have h9 := hr.cells (g := g5) rfl i u (by rw [List.flatMap_append, List.getElem?_append_left (List.getElem?_eq_some_iff.1 hi).1]; exact hi)
      have hadd : ((⟨g5, 0, none⟩ : Addr).add i) = ⟨g5, 0 + i, none⟩ := by unfold Addr.add; by_cases e : i = 0 <;> simp [e]
      rw [hadd] at h9
      rw [hb.cell hg2]; exact h9)
    have HPM := Lib.hid (And.intro hpm (fours_len ps'))
    have hm0 : (0 : Int) ≤ (m : Int) := by omega
    have hm2 : (0 : Int) ≤ (m : Int) + 1 := by omega
    have hm3 : (m : Int) < (m : Int) + 2 := by omega
    have hm4 : (m : Int) + 1 < (m : Int) + 2 := by omega
    have hmc : (m : Int) ≤ (c : Int) := by omega
    have n0 : ¬ g5 = wq.heap.size := by omega
    have n1 : ¬ g5 = wq.heap.size + 1 := by omega
    clear hcl hfz hpm
    have e0 : ((m : Int) + 2 == 0) = false := by simp; omega
    have e1 : decide ((0 : Int) < (m : Int) + 2) = true := by simp; omega
    have e2 : decide ((m : Int) + 2 < 2) = false := by simp; omega
    have e3 : decide ((1 : Int) < (m : Int) + 2) = true := by simp; omega
    go_upto_region 20 with (fail)
    have w1 : IntKind.i64.wrap (m : Int) = (m : Int) := IntWalk.i64_in _ (by omega)
    have w2 : IntKind.i64.wrap ((m : Int) + 1) = (m : Int) + 1 := IntWalk.i64_in _ (by omega)
    have w4 : IntKind.i64.wrap ((m : Int) + 2 - 1) = (m : Int) + 1 := by rw [IntWalk.i64_in _ (by omega)]; omega
    have w5 : IntKind.i64.wrap ((m : Int) + 2 - 2) = (m : Int) := by rw [IntWalk.i64_in _ (by omega)]; omega
    have w3 : ((m : Int) + 1).toNat = m + 1 := by omega
    go_region_held3 (fun w' => w'.cell? ⟨g5, m * 4, none⟩ = some (.int .i64 q.1.kind) ∧ w'.cell? ⟨g5, m * 4 + 1, none⟩ = some q.2.1 ∧ w'.cell? ⟨g5, m * 4 + 2, none⟩ = some q.2.2.1 ∧ w'.cell? ⟨g5, m * 4 + 3, none⟩ = some q.2.2.2 ∧ w'.cell? ⟨g5, (m + 1) * 4, none⟩ = some (.int .i64 r.1.kind) ∧ w'.cell? ⟨g5, (m + 1) * 4 + 1, none⟩ = some r.2.1 ∧ w'.cell? ⟨g5, (m + 1) * 4 + 2, none⟩ = some r.2.2.1 ∧ w'.cell? ⟨g5, (m + 1) * 4 + 3, none⟩ = some r.2.2.2)
      (first | trivial | (refine ⟨?_, ?_, ?_, ?_, ?_, ?_, ?_, ?_⟩ <;> refine (Below.cell (w := wq) (B := wq.heap.size) ?_ hg2).trans (by assumption) <;> repeat (first | exact Below.refl _ _ | exact hB9 | refine Below.drew ?_ | refine bel_new ?_ _)))
      (first | (with_reducible refine is_append ?_; refine step_append_full _ rfl _ _ 41 rfl (w.heap.size + 1) 43 ip _ 4 80 Try.underlying41 hp0 hp1 hp2 hp3 rfl (by decide) g5 0 m (ps'.flatMap four) rfl (by rw [HPM.out.2, HPM.out.1]) (HXC.out _ (by repeat (first | exact Below.refl _ _ | refine Below.drew ?_ | refine bel_new ?_ _))) (wq.heap.size + 1) [.int .i64 5, .slice none 0 0, .slice none 0 0, .slice (some ⟨wq.heap.size, 0, none⟩) 2 2] rfl (cells_new (by simp)) rfl (by unfold maxLen; omega) (by omega) (by have := HQ2.out.lt; simp; omega) ?_; intro c9 w9 hown9 hb9; have hB9 : Below wq.heap.size wq w9 := bel_then (by repeat (first | exact Below.refl _ _ | refine Below.drew ?_ | refine bel_new ?_ _)) hb9))
    all_goals (
      have hS5 := HQ2.out.both (G9 := wq.heap.size + 1 + 1) (by repeat (first | exact Below.refl _ _ | refine Below.drew ?_ | refine bel_new ?_ _)) (by simp) (own_at hown9 (by simp)) (p := .mk 5 [] [] [q.1, r.1]) rfl hb9
        (kp_and (kp_and ((HQ2.out.own.keep q (by simp)).to (.of (by repeat (first | exact Below.refl _ _ | refine Below.drew ?_ | refine bel_new ?_ _)))) ((HQ2.out.own.keep r (by simp)).to (.of (by repeat (first | exact Below.refl _ _ | refine Below.drew ?_ | refine bel_new ?_ _)))) (fun w' h1 h2 => And.intro h1 h2)) (KP.block (b := wq.heap.size) (bel_get (w := wq.alloc _) (by repeat (first | exact Below.refl _ _ | refine Below.drew ?_ | refine bel_new ?_ _)) (heap_alloc_new wq _)) ⟨⟨.inl (by have := HQ2.out.lt; omega), by have := HQ2.out.lt; omega⟩, fun e => by simp [Value.ownBlock] at e; omega⟩) (fun w' h1 h2 => pt_two h1.1 h1.2 h2))
        (gp_two (.inl rfl) (HQ2.out.stk.good q.1 (by simp)) (HQ2.out.stk.good r.1 (by simp))) (by rw [deep_mk, deeps_cons, deeps_cons, deeps_nil]; omega) (by rw [size_mk, sizes_cons, sizes_cons, sizes_nil]; omega)
      have HS5 := Lib.hid hS5
      clear hS5 hown9 hb9 hB9 w1 w2 w3 w4 w5
      go_wp2
      go_roundg g
      case measure => omega
      case rel => exact ⟨j + 1, some ⟨wq.heap.size + 1 + 1, 0, none⟩, m + 1, c9, _, by omega, by simp, rfl, HS5.out⟩)
  · obtain ⟨m, rfl⟩ : ∃ m, n = m + 2 := ⟨n - 2, by omega⟩
    obtain ⟨ps1, r, rfl⟩ : ∃ ps1 r, ps = ps1 ++ [r] := last_of (by have := HQ.out.len; omega)
    obtain ⟨ps', q, rfl⟩ : ∃ ps' q, ps1 = ps' ++ [q] := last_of (by have := HQ.out.len; simp at this; omega)
    have HQ2 := Lib.hid (show SK T w j o (m + 2) c (ps' ++ [q, r]) wq by have := HQ.out; simpa using this)
    clear HQ
    obtain ⟨g5, rfl, hg1, hg2, hnc, hfz, hcl⟩ := HQ2.out.own_cells (by omega)
    have hpm : ps'.length = m := by have := HQ2.out.len; simp at this; omega
    obtain ⟨x0, x1, x2, x3⟩ := hcl m q (by subst hpm; simp)
    obtain ⟨y0, y1, y2, y3⟩ := hcl (m + 1) r (by subst hpm; simp)
    have HXC := Lib.hid (show ∀ w', Below wq.heap.size wq w' → ∀ i u, (ps'.flatMap four)[i]? = some u → w'.cell? ⟨g5, 0 + i, none⟩ = some u by
      intro w' hb i u hi
      have hr := HQ2.out.own.row
      have h9 := hr.cells (g := g5) rfl i u (by rw [List.flatMap_append, List.getElem?_append_left (List.getElem?_eq_some_iff.1 hi).1]; exact hi)
      have hadd : ((⟨g5, 0, none⟩ : Addr).add i) = ⟨g5, 0 + i, none⟩ := by unfold Addr.add; by_cases e : i = 0 <;> simp [e]
      rw [hadd] at h9
      rw [hb.cell hg2]; exact h9)
    have HPM := Lib.hid (And.intro hpm (fours_len ps'))
    have hm0 : (0 : Int) ≤ (m : Int) := by omega
    have hm2 : (0 : Int) ≤ (m : Int) + 1 := by omega
    have hm3 : (m : Int) < (m : Int) + 2 := by omega
    have hm4 : (m : Int) + 1 < (m : Int) + 2 := by omega
    have hmc : (m : Int) ≤ (c : Int) := by omega
    have n0 : ¬ g5 = wq.heap.size := by omega
    have n1 : ¬ g5 = wq.heap.size + 1 := by omega
    clear hcl hfz hpm
    have e0 : ((m : Int) + 2 == 0) = false := by simp; omega
    have e1 : decide ((0 : Int) < (m : Int) + 2) = true := by simp; omega
    have e2 : decide ((m : Int) + 2 < 2) = false := by simp; omega
    have e3 : decide ((1 : Int) < (m : Int) + 2) = true := by simp; omega
    go_upto_region 20 with (fail)
    have w1 : IntKind.i64.wrap (m : Int) = (m : Int) := IntWalk.i64_in _ (by omega)
    have w2 : IntKind.i64.wrap ((m : Int) + 1) = (m : Int) + 1 := IntWalk.i64_in _ (by omega)
    have w4 : IntKind.i64.wrap ((m : Int) + 2 - 1) = (m : Int) + 1 := by rw [IntWalk.i64_in _ (by omega)]; omega
    have w5 : IntKind.i64.wrap ((m : Int) + 2 - 2) = (m : Int) := by rw [IntWalk.i64_in _ (by omega)]; omega
    have w3 : ((m : Int) + 1).toNat = m + 1 := by omega
    go_region_held3 (fun w' => w'.cell? ⟨g5, m * 4, none⟩ = some (.int .i64 q.1.kind) ∧ w'.cell? ⟨g5, m * 4 + 1, none⟩ = some q.2.1 ∧ w'.cell? ⟨g5, m * 4 + 2, none⟩ = some q.2.2.1 ∧ w'.cell? ⟨g5, m * 4 + 3, none⟩ = some q.2.2.2 ∧ w'.cell? ⟨g5, (m + 1) * 4, none⟩ = some (.int .i64 r.1.kind) ∧ w'.cell? ⟨g5, (m + 1) * 4 + 1, none⟩ = some r.2.1 ∧ w'.cell? ⟨g5, (m + 1) * 4 + 2, none⟩ = some r.2.2.1 ∧ w'.cell? ⟨g5, (m + 1) * 4 + 3, none⟩ = some r.2.2.2)
      (first | trivial | (refine ⟨?_, ?_, ?_, ?_, ?_, ?_, ?_, ?_⟩ <;> refine (Below.cell (w := wq) (B := wq.heap.size) ?_ hg2).trans (by assumption) <;> repeat (first | exact Below.refl _ _ | exact hB9 | refine Below.drew ?_ | refine bel_new ?_ _)))
      (first | (with_reducible refine is_append ?_; refine step_append_full _ rfl _ _ 41 rfl (w.heap.size + 1) 43 ip _ 4 80 Try.underlying41 hp0 hp1 hp2 hp3 rfl (by decide) g5 0 m (ps'.flatMap four) rfl (by rw [HPM.out.2, HPM.out.1]) (HXC.out _ (by repeat (first | exact Below.refl _ _ | refine Below.drew ?_ | refine bel_new ?_ _))) (wq.heap.size + 1) [.int .i64 5, .slice none 0 0, .slice none 0 0, .slice (some ⟨wq.heap.size, 0, none⟩) 2 2] rfl (cells_new (by simp)) rfl (by unfold maxLen; omega) (by omega) (by have := HQ2.out.lt; simp; omega) ?_; intro c9 w9 hown9 hb9; have hB9 : Below wq.heap.size wq w9 := bel_then (by repeat (first | exact Below.refl _ _ | refine Below.drew ?_ | refine bel_new ?_ _)) hb9))
    all_goals (
      have hS5 := HQ2.out.both (G9 := wq.heap.size + 1 + 1) (by repeat (first | exact Below.refl _ _ | refine Below.drew ?_ | refine bel_new ?_ _)) (by simp) (own_at hown9 (by simp)) (p := .mk 5 [] [] [q.1, r.1]) rfl hb9
        (kp_and (kp_and ((HQ2.out.own.keep q (by simp)).to (.of (by repeat (first | exact Below.refl _ _ | refine Below.drew ?_ | refine bel_new ?_ _)))) ((HQ2.out.own.keep r (by simp)).to (.of (by repeat (first | exact Below.refl _ _ | refine Below.drew ?_ | refine bel_new ?_ _)))) (fun w' h1 h2 => And.intro h1 h2)) (KP.block (b := wq.heap.size) (bel_get (w := wq.alloc _) (by repeat (first | exact Below.refl _ _ | refine Below.drew ?_ | refine bel_new ?_ _)) (heap_alloc_new wq _)) ⟨⟨.inl (by have := HQ2.out.lt; omega), by have := HQ2.out.lt; omega⟩, fun e => by simp [Value.ownBlock] at e; omega⟩) (fun w' h1 h2 => pt_two h1.1 h1.2 h2))
        (gp_two (.inl rfl) (HQ2.out.stk.good q.1 (by simp)) (HQ2.out.stk.good r.1 (by simp))) (by rw [deep_mk, deeps_cons, deeps_cons, deeps_nil]; omega) (by rw [size_mk, sizes_cons, sizes_cons, sizes_nil]; omega)
      have HS5 := Lib.hid hS5
      clear hS5 hown9 hb9 hB9 w1 w2 w3 w4 w5
      go_wp2
      go_roundg g
      case measure => omega
      case rel => exact ⟨j + 1, some ⟨wq.heap.size + 1 + 1, 0, none⟩, m + 1, c9, _, by omega, by simp, rfl, HS5.out⟩)
set_option maxHeartbeats 20000000 in
set_option maxRecDepth 100000 in
theorem pat_arm9 (T : List TK) (l : List Int) (cl : Nat) (oi : Option Addr) (ci : Nat) (oc : Option Addr) (cc : Nat) (or : Option Addr) (cr : Nat) (I C R : List ByteArray) (w : World) : (patCore (fun n v => 1 < n ∧ v = 10) T l cl oi ci oc cc or cr I C R w).1 := by
  intro ip hp0 hp1 hp2 hp3 HE Q0 K0 A0 wr u11 u12 u13 u16 u17 u18 u19 u20 u21 u22 u23 u24 u25 u26 u27 u28 u29 u30 u31 u32 u33 u34 u35 u36 u37 u38 u39 u40 u41 u42 u43 u44 u45 u46 u47 u48 u49 u50 u51 u52 u53 u54 u55 u56 u57 u58 u59 u60 u61 u62 u63 u64 u65 u66 u67 u68 u69 u70 u71 u72 u73 u74 u75 u76 u77 u78 u79 u80 u81 u82 u83 u84 u85 u86 u87 u88 u89 u90 u91 u92 u93 u94 u95 u96 u97 u98 u99 u100 u101 u102 u103 u104 u105 u106 u107 u108 u109 u110 u111 u112 u113 u114 u115 u116 u117 u118 u119 u120 u121 u122 u123 u124 u125 u126 u127 u128 u129 u130 u131 u132 u133 u134 u135 u136 u137 u138 u139 u140 u141 u142 u143 u144 u145 u146 u147 u148 u149 u150 u151 u152 u153 u154 u155 u156 u157 u158 u159 u160 u161 u162 u163 u164 u165 u166 u167 u168 u169 u170 u171 u172 u173 u174 u175 u176 u177 u178 u179 u180 u181 u182 u183 u184 u185 u186 u187 u188 u189 u190 u191 u192 u193 J0 K1 j o n c ps hn8 k v hv ev1 ev2 hd1 hd2 b off hk0 A1 hj8 hjl g A2 hjg K2 A3 K3 A4 nq wq HQ hcase
  rcases hcase with ⟨h, rfl⟩
  obtain ⟨m, rfl⟩ : ∃ m, n = m + 2 := ⟨n - 2, by omega⟩
  obtain ⟨ps1, r, rfl⟩ : ∃ ps1 r, ps = ps1 ++ [r] := last_of (by have := HQ.out.len; omega)
  obtain ⟨ps', q, rfl⟩ : ∃ ps' q, ps1 = ps' ++ [q] := last_of (by have := HQ.out.len; simp at this; omega)
  have HQ2 := Lib.hid (show SK T w j o (m + 2) c (ps' ++ [q, r]) wq by have := HQ.out; simpa using this)
  clear HQ
  obtain ⟨g5, rfl, hg1, hg2, hnc, hfz, hcl⟩ := HQ2.out.own_cells (by omega)
  have hpm : ps'.length = m := by have := HQ2.out.len; simp at this; omega
  obtain ⟨x0, x1, x2, x3⟩ := hcl m q (by subst hpm; simp)
  obtain ⟨y0, y1, y2, y3⟩ := hcl (m + 1) r (by subst hpm; simp)
  have HXC := Lib.hid (show ∀ w', Below wq.heap.size wq w' → ∀ i u, (ps'.flatMap four)[i]? = some u → w'.cell? ⟨g5, 0 + i, none⟩ = some u by
    intro w' hb i u hi
    have hr := HQ2.out.own.row
    have h9 := hr.cells (g := g5) rfl i u (by rw [List.flatMap_append, List.getElem?_append_left (List.getElem?_eq_some_iff.1 hi).1]; exact hi)
    have hadd : ((⟨g5, 0, none⟩ : Addr).add i) = ⟨g5, 0 + i, none⟩ := by unfold Addr.add; by_cases e : i = 0 <;> simp [e]
    rw [hadd] at h9
    rw [hb.cell hg2]; exact h9)
  have HPM := Lib.hid (And.intro hpm (fours_len ps'))
  have hm0 : (0 : Int) ≤ (m : Int) := by omega
  have hm2 : (0 : Int) ≤ (m : Int) + 1 := by omega
  have hm3 : (m : Int) < (m : Int) + 2 := by omega
  have hm4 : (m : Int) + 1 < (m : Int) + 2 := by omega
  have hmc : (m : Int) ≤ (c : Int) := by omega
  have n0 : ¬ g5 = wq.heap.size := by omega
  have n1 : ¬ g5 = wq.heap.size + 1 := by omega
  clear hcl hfz hpm
  have e0 : ((m : Int) + 2 == 0) = false := by simp; omega
  have e1 : decide ((0 : Int) < (m : Int) + 2) = true := by simp; omega
  have e2 : decide ((m : Int) + 2 < 2) = false := by simp; omega
  have e3 : decide ((1 : Int) < (m : Int) + 2) = true := by simp; omega
  go_upto_region 22 with (fail)
  have w1 : IntKind.i64.wrap (m : Int) = (m : Int) := IntWalk.i64_in _ (by omega)
  have w2 : IntKind.i64.wrap ((m : Int) + 1) = (m : Int) + 1 := IntWalk.i64_in _ (by omega)
  have w4 : IntKind.i64.wrap ((m : Int) + 2 - 1) = (m : Int) + 1 := by rw [IntWalk.i64_in _ (by omega)]; omega
  have w5 : IntKind.i64.wrap ((m : Int) + 2 - 2) = (m : Int) := by rw [IntWalk.i64_in _ (by omega)]; omega
  have w3 : ((m : Int) + 1).toNat = m + 1 := by omega
  go_region_held3 (fun w' => w'.cell? ⟨g5, m * 4, none⟩ = some (.int .i64 q.1.kind) ∧ w'.cell? ⟨g5, m * 4 + 1, none⟩ = some q.2.1 ∧ w'.cell? ⟨g5, m * 4 + 2, none⟩ = some q.2.2.1 ∧ w'.cell? ⟨g5, m * 4 + 3, none⟩ = some q.2.2.2 ∧ w'.cell? ⟨g5, (m + 1) * 4, none⟩ = some (.int .i64 r.1.kind) ∧ w'.cell? ⟨g5, (m + 1) * 4 + 1, none⟩ = some r.2.1 ∧ w'.cell? ⟨g5, (m + 1) * 4 + 2, none⟩ = some r.2.2.1 ∧ w'.cell? ⟨g5, (m + 1) * 4 + 3, none⟩ = some r.2.2.2)
    (first | trivial | (refine ⟨?_, ?_, ?_, ?_, ?_, ?_, ?_, ?_⟩ <;> refine (Below.cell (w := wq) (B := wq.heap.size) ?_ hg2).trans (by assumption) <;> repeat (first | exact Below.refl _ _ | exact hB9 | refine Below.drew ?_ | refine bel_new ?_ _)))
    (first | (with_reducible refine is_append ?_; refine step_append_full _ rfl _ _ 41 rfl (w.heap.size + 1) 43 ip _ 4 80 Try.underlying41 hp0 hp1 hp2 hp3 rfl (by decide) g5 0 m (ps'.flatMap four) rfl (by rw [HPM.out.2, HPM.out.1]) (HXC.out _ (by repeat (first | exact Below.refl _ _ | refine Below.drew ?_ | refine bel_new ?_ _))) (wq.heap.size + 1) [.int .i64 6, .slice none 0 0, .slice none 0 0, .slice (some ⟨wq.heap.size, 0, none⟩) 2 2] rfl (cells_new (by simp)) rfl (by unfold maxLen; omega) (by omega) (by have := HQ2.out.lt; simp; omega) ?_; intro c9 w9 hown9 hb9; have hB9 : Below wq.heap.size wq w9 := bel_then (by repeat (first | exact Below.refl _ _ | refine Below.drew ?_ | refine bel_new ?_ _)) hb9))
  all_goals (
    have hS5 := HQ2.out.both (G9 := wq.heap.size + 1 + 1) (by repeat (first | exact Below.refl _ _ | refine Below.drew ?_ | refine bel_new ?_ _)) (by simp) (own_at hown9 (by simp)) (p := .mk 6 [] [] [q.1, r.1]) rfl hb9
      (kp_and (kp_and ((HQ2.out.own.keep q (by simp)).to (.of (by repeat (first | exact Below.refl _ _ | refine Below.drew ?_ | refine bel_new ?_ _)))) ((HQ2.out.own.keep r (by simp)).to (.of (by repeat (first | exact Below.refl _ _ | refine Below.drew ?_ | refine bel_new ?_ _)))) (fun w' h1 h2 => And.intro h1 h2)) (KP.block (b := wq.heap.size) (bel_get (w := wq.alloc _) (by repeat (first | exact Below.refl _ _ | refine Below.drew ?_ | refine bel_new ?_ _)) (heap_alloc_new wq _)) ⟨⟨.inl (by have := HQ2.out.lt; omega), by have := HQ2.out.lt; omega⟩, fun e => by simp [Value.ownBlock] at e; omega⟩) (fun w' h1 h2 => pt_two h1.1 h1.2 h2))
      (gp_two (.inr rfl) (HQ2.out.stk.good q.1 (by simp)) (HQ2.out.stk.good r.1 (by simp))) (by rw [deep_mk, deeps_cons, deeps_cons, deeps_nil]; omega) (by rw [size_mk, sizes_cons, sizes_cons, sizes_nil]; omega)
    have HS5 := Lib.hid hS5
    clear hS5 hown9 hb9 hB9 w1 w2 w3 w4 w5
    go_wp2
    go_roundg g
    case measure => omega
    case rel => exact ⟨j + 1, some ⟨wq.heap.size + 1 + 1, 0, none⟩, m + 1, c9, _, by omega, by simp, rfl, HS5.out⟩)
end Go.Proofs.Ytkmnigoikkffnaa

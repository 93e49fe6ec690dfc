import Derived.Test.YtfkmajjgkdjncaaGreatDoorClsHas
set_option linter.unusedVariables false
set_option linter.unusedSimpArgs false
set_option maxHeartbeats 4000000
set_option maxRecDepth 100000
namespace Go.Proofs.YtfkmajjgkdjncaaGreatDoor
open Go.RowKit De Wd
def Asc (s:ByteArray):Prop:=s.size≤100∧∀b∈s.data.toList,b.toNat<128
theorem Asc.get {s:ByteArray} (h:Asc s) {i:Nat} (hi:i<s.size):(s[i]'hi).toNat<128:=
 h.2 _ (Array.getElem_mem_toList (xs:=s.data) hi)
theorem indexByte_none (l:List UInt8) (c:UInt8) (h:∀b∈l,b≠c):Lib.indexByte l c=-1:=by
 induction l with
 | nil=>rfl
 | cons b l ih =>
  have h1:=ih (fun x hx=>h x (by simp[hx]))
  have h2:(b == c)=false:=by simpa using h b (by simp)
  simp[Lib.indexByte,h1,h2]
theorem Ev (r:Int) (w:World) (h0:0≤r) (hv:Utf8.valid r=true) :
 Calls Tryz.prog 172 #[.int .i32 r] w fun e w'=>e=.returned (.bool true)∧w=w':=by
 rw[validRune_eq] at hv
 unfold validRune at hv
 rw[decide_eq_true_eq] at hv
 have d0:decide ((0:Int)≤r)=true:=by simpa using h0
 by_cases h1:r<55296
 · have d1 : decide (r < (55296 : Int)) = true := by simpa using h1
   clear hv
   go_enter Tryz.func172,Tryz.ntmps172
   go_wp2
   go_ret
   exact⟨rfl,rfl⟩
 · have d1 : decide (r < (55296 : Int)) = false := by simpa using h1
   have d2:decide ((57343:Int)<r)=true:=by simp;omega
   have d3:decide (r≤(1114111:Int))=true:=by simp;omega
   clear hv
   go_enter Tryz.func172,Tryz.ntmps172
   go_wp2
   go_ret
   exact⟨rfl,rfl⟩
theorem CY (s:ByteArray) (w:World) (hs:Asc s) :
 Calls Tryz.prog 153 #[.string s,.int .i32 65533] w fun e w'=>e=.returned (.int .i64 (-1))∧Below w.heap.size w w':=by
 have HA:=Lib.hid hs
 clear hs
 go_enter Tryz.func153,Tryz.ntmps153
 go_wp2_with fail
 go_loopg [5,6] s.size (fun g _ _ wx=>∃i:Nat,i+g=s.size∧wx=w.iter s i)
 case atStart=>exact⟨0,by omega,rfl⟩
 case round=>
  obtain⟨i,hig,rfl⟩:=hrel
  cases gk with
  | zero =>
   obtain rfl:i=s.size:=by omega
   have hnx:=run_next_end (P:=Tryz.prog) w s s.size
   go_wp2
   go_ret
   exact⟨rfl,Below.alloc (Below.refl _ _) (Nat.le_refl _) _⟩
  | succ g =>
   have hi:i<s.size:=by omega
   have hx128:(s[i]'hi).toNat<128:=HA.out.get hi
   obtain⟨x,hx⟩:∃x:UInt8,s[i]'hi=x:=⟨_,rfl⟩
   have hnx:=fun ty=>run_next_ascii (P:=Tryz.prog) w s i ty hi hx128
   rw[hx] at hnx hx128
   have hne:((x.toNat:Int) == 65533)=false:=by simp;omega
   clear hx
   go_wp2
   go_roundg g
   case measure=>omega
   case rel=>exact⟨i+1,by omega,rfl⟩
theorem IY (r:Int) (hv:Utf8.valid r=true) (h128:128≤r):∃(rs:ByteArray) (n:Nat) (hn:n<rs.size),rs=Utf8.encode r∧rs.size=n+1∧1≤n∧n≤3∧128≤(rs[n]'hn).toNat:=by
 have h:=encode_facts r hv h128
 refine⟨Utf8.encode r,(Utf8.encode r).size-1,by omega,rfl,by omega,by omega,by omega,h.2.2 (by omega)⟩
theorem Ew (s:ByteArray) (r:Int) (w:World) (hs:Asc s) (h128:128≤r) (hv:Utf8.valid r=true) (hr:r≠65533) :
 Calls Tryz.prog 153 #[.string s,.int .i32 r] w fun e w'=>e=.returned (.int .i64 (-1))∧Below w.heap.size w w':=by
 have HA:=Lib.hid hs
 have hval:=fun w=>Ev r w (by omega) hv
 obtain⟨rs,n,hn,hrs,hsz,hn1,rG,hl⟩:=IY r hv h128
 have d0:decide ((0:Int)≤r)=true:=by simp;omega
 have d1:decide (r<(128:Int))=false:=by simp;omega
 have d2:(r == 65533)=false:=by simpa using hr
 have hcv : ∀ w, (convert 21 9 (.int .i32 r)).run Tryz.prog w = .ok (.string rs) w := fun w => by
  rw[hrs];exact run_convert_int_string w _ _ _ _ (by kernel_rfl) Tryz.underlying9
 have HV:=Lib.hid hval
 have hsz':(rs.size:Int)-1=n:=by omega
 have hi1:(0:Int)≤(n:Int):=by omega
 have hi2:(n:Int)<(rs.size:Int):=by omega
 obtain⟨cl,hcl⟩:∃cl:UInt8,rs[n]'hn=cl:=⟨_,rfl⟩
 rw[hcl] at hl
 have aa7:s.size≤100:=hs.1
 have HX:=Lib.hid hcl
 clear hs hval hrs hv hcl hr hsz
 go_enter Tryz.func153,Tryz.ntmps153
 go_wp2_with fail
 refine(HV.out _).mono ?_
 rintro e w' ⟨rfl,rfl⟩
 go_wp2_with fail
 go_step3
 go_wp2_with fail
 go_loopg [9,10] 1 (fun g i _ wx=>i=.int .i64 (n:Int)∧wx=w∧g=1)
 case atStart=>exact⟨by go_num,rfl,rfl⟩
 case round=>
  obtain⟨rfl,rfl,rfl⟩:=hrel
  by_cases hb:n<s.size
  · have hlt : decide ((n : Int) < (s.size : Int)) = true := by simp; omega
    have hj2:(n:Int)<(s.size:Int):=by omega
    obtain⟨x,hx⟩:∃x:UInt8,s[n]'hb=x:=⟨_,rfl⟩
    have hx128:=HA.out.get hb
    rw[hx] at hx128
    have hne:((x.toNat:Int) != (cl.toNat:Int))=true:=by simp;omega
    have hcl:=HX.out
    have hib:=fun w=>Any.strings_IndexByte Tryz.indexB (s.extract (n+1) s.size) (cl.toNat:Int) w
    have hnone : Lib.indexByte (s.extract (n + 1) s.size).data.toList ((cl.toNat : Int)).toNat.toUInt8 = -1 := indexByte_none _ _ (fun b hb he => by
     have:=HA.out.2 b (mem_extract hb)
     rw[he] at this
     simp at this
     omega)
    rw[hnone] at hib
    have Z7:=Lib.hid hib
    have abg:(n:Int)≤3:=by omega
    have hb1:(0:Int)≤(n:Int)+1:=by omega
    have hb2:(n:Int)+1≤(s.size:Int):=by omega
    have hb3:n+1≤s.size:=by omega
    have hw1:IntKind.i64.wrap ((n:Int)+1)=(n:Int)+1:=wrap_small _ (by omega) (by omega)
    clear hib hnone
    go_wp2_with fail
    go_step3
    go_wp2_with fail
    go_quiet (fail)
    have hbq:Below wr.heap.size wr (wr.drewN nq):=below_drewN (Below.refl _ _) nq
    generalize wr.drewN nq=wq at hbq ⊢
    go_wp2_with fail
    go_quiet ((go_at_call 87;exact Calls.quiet_of_same (Z7.out _)))
    go_wp2
    rw[Exit.noGoto_ret]
    go_wp2_with fail
    rw[Exit.noGoto_ret]
    go_ret
    exact⟨rfl,below_drewN hbq _⟩
  · have hlt : decide ((n : Int) < (s.size : Int)) = false := by simp; omega
    go_wp2
    repeat rw[Exit.noGoto_ret]
    go_ret
    exact⟨rfl,Below.refl _ _⟩
theorem Ey (s:ByteArray) (r:Int) (w:World) (hs:Asc s) (h128:128≤r) (hv:Utf8.valid r=true) :
 Calls Tryz.prog 153 #[.string s,.int .i32 r] w fun e w'=>e=.returned (.int .i64 (-1))∧Below w.heap.size w w':=by
 by_cases h:r=65533
 · subst h;exact CY s w hs
 · exact Ew s r w hs h128 hv h
theorem sU (s:ByteArray) (r:Int) (w:World) (hs:Asc s) (h128:128≤r) (hv:Utf8.valid r=true) :
 Calls Tryz.prog 138 #[.string s,.int .i32 r] w fun e w'=>e=.returned (.bool false)∧Below w.heap.size w w':=by
 have hc:=fun w=>Ey s r w hs h128 hv
 have HC:=Lib.hid hc
 clear hc hs hv
 go_enter Tryz.func138,Tryz.ntmps138
 go_wp2_with fail
 refine(HC.out _).mono ?_
 rintro e w' ⟨rfl,hb⟩
 go_wp2
 go_ret
 exact⟨rfl,hb⟩
end Go.Proofs.YtfkmajjgkdjncaaGreatDoor

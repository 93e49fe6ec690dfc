import Derived.Test.YtfkmajjgkdjncaaGreatDoorClsPeek
set_option linter.unusedVariables false
set_option linter.unusedSimpArgs false
set_option maxHeartbeats 4000000
set_option maxRecDepth 100000
namespace Go.Proofs.YtfkmajjgkdjncaaGreatDoor
open Go.RowKit De Wd
theorem lU (s:ByteArray) (r:Int) (w:World) (h0:0≤r) (h1:r<128) :
 Calls Tryz.prog 153 #[.string s,.int .i32 r] w fun e w'=>e=.returned (.int .i64 (Lib.indexByte s.data.toList r.toNat.toUInt8))∧w=w':=by
 go_enter Tryz.func153,Tryz.ntmps153
 go_wp2_with fail
 refine(Any.strings_IndexByte Tryz.indexB _ _ _).mono ?_
 rintro e w' ⟨rfl,rfl⟩
 go_wp2
 go_ret
 exact⟨rfl,rfl⟩
namespace Wd
def xV:List Int:=[47,124,42,40,41,91,93,45]
def rJ (r:Int):Bool:=decide (32≤r) && !(decide (r∈xV))
theorem SI:∀n:Nat,n<128→decide (0≤Lib.indexByte [47,124,42,40,41,91,93,45] n.toUInt8)=decide ((n:Int)∈xV):=by decide +kernel
end Wd
theorem Bt (r:Int) (w:World) (h0:0≤r) (h1:r<128) :
 Calls Tryz.prog 138 #[.string ⟨#[47,124,42,40,41,91,93,45]⟩,.int .i32 r] w fun e w'=>e=.returned (.bool (decide (r∈xV)))∧w=w':=by
 have hx:=SI r.toNat (by omega)
 have er:((r.toNat:Nat):Int)=r:=by omega
 rw[er] at hx
 have hc:=fun w=>lU ⟨#[47,124,42,40,41,91,93,45]⟩ r w h0 h1
 have e2:(⟨#[47,124,42,40,41,91,93,45]⟩:ByteArray).data.toList=[47,124,42,40,41,91,93,45]:=rfl
 rw[e2] at hc
 obtain⟨ix,hix⟩:∃ix,ix=Lib.indexByte [47,124,42,40,41,91,93,45] r.toNat.toUInt8:=⟨_,rfl⟩
 rw[←hix] at hx hc
 have HC:=Lib.hid hc
 have HX:=Lib.hid hx
 clear hc hx hix e2 er
 go_enter Tryz.func138,Tryz.ntmps138
 go_wp2_with fail
 refine(HC.out _).mono ?_
 rintro e w' ⟨rfl,rfl⟩
 go_wp2
 go_ret
 exact⟨by rw[←HX.out];rfl,rfl⟩
theorem IW (r:Int) (w:World) (h0:0≤r) (h1:r<128) :
 Calls Tryz.prog 226 #[.int .i32 r] w fun e w'=>e=.returned (.bool (rJ r))∧w=w':=by
 have hc:=fun w=>Bt r w h0 h1
 by_cases h32:32≤r
 · cases hm : decide (r ∈ xV) with
   | true =>
    have ho:rJ r=false:=by simp[rJ,hm]
    rw[hm] at hc
    have HO:=Lib.hid ho
    have HC:=Lib.hid hc
    clear hm ho hc
    go_enter Tryz.func226,Tryz.ntmps226
    go_wp2_with fail
    refine(HC.out _).mono ?_
    rintro e w' ⟨rfl,rfl⟩
    go_wp2
    go_ret
    exact⟨by rw[HO.out];rfl,rfl⟩
   | false =>
    have ho:rJ r=true:=by simp[rJ,hm,h32]
    rw[hm] at hc
    have HO:=Lib.hid ho
    have HC:=Lib.hid hc
    clear hm ho hc
    go_enter Tryz.func226,Tryz.ntmps226
    go_wp2_with fail
    refine(HC.out _).mono ?_
    rintro e w' ⟨rfl,rfl⟩
    go_wp2
    go_ret
    exact⟨by rw[HO.out];rfl,rfl⟩
 · have ho : rJ r = false := by simp [rJ, h32]
   have HO:=Lib.hid ho
   clear ho hc
   go_enter Tryz.func226,Tryz.ntmps226
   go_wp2
   go_ret
   exact⟨by rw[HO.out];rfl,rfl⟩
namespace Wd
def tk (L:Its) (k:Nat):Bool:=decide (0≤pk L k) && rJ (pk L k)
def el (L:Its) (k:Nat):Except Nat ((Int×Int)×Nat):=
 if tk L k=true then
  if pk L (k+1)=45 then
   if tk L (k+2)=true then if pk L (k+2)<pk L k then .error (k+2) else .ok ((pk L k,pk L (k+2)),k+3)
   else .error (k+2)
  else .ok ((pk L k,pk L k),k+1)
 else .error k
end Wd
end Go.Proofs.YtfkmajjgkdjncaaGreatDoor

/- Merged. -/
import Derived.Shelf.Strconv.Atoi
import Derived.Test.YtfkmajjgkdjncaaGreatDoorPsName
import Derived.Lib.AtoiErrMem
set_option linter.unusedVariables false
set_option linter.unusedSimpArgs false
set_option maxHeartbeats 4000000
set_option maxRecDepth 100000
namespace Go.Proofs.YtfkmajjgkdjncaaGreatDoor
open Go.Shelf
open Go.RowKit in
def Tryz.Je:Go.Shelf.Ren:=⟨fun|172=>121|244=>141|245=>142|247=>159|279=>160|280=>161|281=>162|282=>163|287=>179|316=>120|171=>181|205=>180|321=>190|322=>191|243=>192|246=>204|283=>221|284=>222|285=>223|286=>224|129=>220|317=>236|318=>237|319=>238|320=>239|337=>252|338=>253|n=>n,fun|9=>9|3=>3|75=>164|76=>165|4=>4|5=>5|167=>196|37=>84|0=>0|85=>197|2=>2|168=>199|53=>216|175=>217|46=>37|210=>220|127=>183|145=>231|143=>229|21=>21|171=>255|173=>257|212=>268|51=>44|20=>20|213=>269|232=>279|233=>280|80=>143|n=>n,fun|15=>1|16=>2|17=>3|18=>4|19=>5|n=>n⟩
theorem Tryz.Tm:Go.Proofs.Lays.n172 Tryz.prog Tryz.Je:={
 mixed:=by kernel_rfl
 f129:=Tryz.func220.trans (congrArg some (by kernel_rfl))
 f171:=Tryz.func181.trans (congrArg some (by kernel_rfl))
 f172:=Tryz.func121.trans (congrArg some (by kernel_rfl))
 f205:=Tryz.func180.trans (congrArg some (by kernel_rfl))
 f243:=Tryz.func192.trans (congrArg some (by kernel_rfl))
 f244:=Tryz.func141.trans (congrArg some (by kernel_rfl))
 f245:=Tryz.func142.trans (congrArg some (by kernel_rfl))
 f246:=Tryz.func204.trans (congrArg some (by kernel_rfl))
 f247:=Tryz.func159.trans (congrArg some (by kernel_rfl))
 f279:=Tryz.func160.trans (congrArg some (by kernel_rfl))
 f280:=Tryz.func161.trans (congrArg some (by kernel_rfl))
 f281:=Tryz.func162.trans (congrArg some (by kernel_rfl))
 f282:=Tryz.func163.trans (congrArg some (by kernel_rfl))
 f283:=Tryz.func221.trans (congrArg some (by kernel_rfl))
 f284:=Tryz.func222.trans (congrArg some (by kernel_rfl))
 f285:=Tryz.func223.trans (congrArg some (by kernel_rfl))
 f286:=Tryz.func224.trans (congrArg some (by kernel_rfl))
 f287:=Tryz.func179.trans (congrArg some (by kernel_rfl))
 f316:=Tryz.func120.trans (congrArg some (by kernel_rfl))
 f317:=Tryz.func236.trans (congrArg some (by kernel_rfl))
 f318:=Tryz.func237.trans (congrArg some (by kernel_rfl))
 f319:=Tryz.func238.trans (congrArg some (by kernel_rfl))
 f320:=Tryz.func239.trans (congrArg some (by kernel_rfl))
 f321:=Tryz.func190.trans (congrArg some (by kernel_rfl))
 f322:=Tryz.func191.trans (congrArg some (by kernel_rfl))
 f337:=Tryz.func252.trans (congrArg some (by kernel_rfl))
 f338:=Tryz.func253.trans (congrArg some (by kernel_rfl))
 t0:=Tryz.underlying0
 a0:=Tryz.isAgg0
 z0:=Tryz.sizeOf0
 v0:=Tryz.zeroValue0
 t2:=Tryz.underlying2
 a2:=Tryz.isAgg2
 z2:=Tryz.sizeOf2
 v2:=Tryz.zeroValue2
 t3:=Tryz.underlying3
 a3:=Tryz.isAgg3
 z3:=Tryz.sizeOf3
 v3:=Tryz.zeroValue3
 t4:=Tryz.underlying4
 a4:=Tryz.isAgg4
 z4:=Tryz.sizeOf4
 v4:=Tryz.zeroValue4
 t5:=Tryz.underlying5
 a5:=Tryz.isAgg5
 z5:=Tryz.sizeOf5
 v5:=Tryz.zeroValue5
 t9:=Tryz.underlying9
 a9:=Tryz.isAgg9
 z9:=Tryz.sizeOf9
 v9:=Tryz.zeroValue9
 t20:=Tryz.underlying20
 a20:=Tryz.isAgg20
 z20:=Tryz.sizeOf20
 v20:=Tryz.zeroValue20
 t21:=Tryz.underlying21
 a21:=Tryz.isAgg21
 z21:=Tryz.sizeOf21
 v21:=Tryz.zeroValue21
 t37:=Tryz.underlying84
 a37:=Tryz.isAgg84
 z37:=Tryz.sizeOf84
 v37:=Tryz.zeroValue84
 t46:=Tryz.underlying37
 a46:=Tryz.isAgg37
 z46:=Tryz.sizeOf37
 v46:=Tryz.zeroValue37
 t51:=Tryz.underlying44
 a51:=Tryz.isAgg44
 z51:=Tryz.sizeOf44
 v51:=Tryz.zeroValue44
 t53:=Tryz.underlying216
 a53:=Tryz.isAgg216
 z53:=Tryz.sizeOf216
 v53:=Tryz.zeroValue216
 t75:=Tryz.underlying164
 a75:=Tryz.isAgg164
 z75:=Tryz.sizeOf164
 v75:=Tryz.zeroValue164
 t76:=Tryz.underlying165
 a76:=Tryz.isAgg165
 z76:=Tryz.sizeOf165
 v76:=Tryz.zeroValue165
 t85:=Tryz.underlying197
 a85:=Tryz.isAgg197
 z85:=Tryz.sizeOf197
 v85:=Tryz.zeroValue197
 t127:=Tryz.underlying183
 a127:=Tryz.isAgg183
 z127:=Tryz.sizeOf183
 v127:=Tryz.zeroValue183
 t143:=Tryz.underlying229
 a143:=Tryz.isAgg229
 z143:=Tryz.sizeOf229
 v143:=Tryz.zeroValue229
 t145:=Tryz.underlying231
 a145:=Tryz.isAgg231
 z145:=Tryz.sizeOf231
 v145:=Tryz.zeroValue231
 t167:=Tryz.underlying196
 a167:=Tryz.isAgg196
 z167:=Tryz.sizeOf196
 v167:=Tryz.zeroValue196
 t168:=Tryz.underlying199
 a168:=Tryz.isAgg199
 z168:=Tryz.sizeOf199
 v168:=Tryz.zeroValue199
 t171:=Tryz.underlying255
 a171:=Tryz.isAgg255
 z171:=Tryz.sizeOf255
 v171:=Tryz.zeroValue255
 t173:=Tryz.underlying257
 a173:=Tryz.isAgg257
 z173:=Tryz.sizeOf257
 v173:=Tryz.zeroValue257
 t175:=Tryz.underlying217
 a175:=Tryz.isAgg217
 z175:=Tryz.sizeOf217
 v175:=Tryz.zeroValue217
 t210:=Tryz.underlying220
 a210:=Tryz.isAgg220
 z210:=Tryz.sizeOf220
 v210:=Tryz.zeroValue220
 t212:=Tryz.underlying268
 a212:=Tryz.isAgg268
 z212:=Tryz.sizeOf268
 v212:=Tryz.zeroValue268
 t213:=Tryz.underlying269
 a213:=Tryz.isAgg269
 z213:=Tryz.sizeOf269
 t232:=Tryz.underlying279
 a232:=Tryz.isAgg279
 z232:=Tryz.sizeOf279
 v232:=Tryz.zeroValue279
 t233:=Tryz.underlying280
 a233:=Tryz.isAgg280
 z233:=Tryz.sizeOf280
 v233:=Tryz.zeroValue280
 g15:=by kernel_rfl
 g16:=by kernel_rfl
 g17:=by kernel_rfl
 g18:=by kernel_rfl
 g19:=by kernel_rfl }
open Go.RowKit in
theorem Tryz.strconv_Atoi (s:ByteArray) (n:Int) (hl:s.size≤18) (h:Lib.atoi s.data.toList=some n) (w:World) :
 Calls Tryz.prog 121 #[.string s] w fun e w'=>e=.returned (.tuple #[.int .i64 n,.nilIface])∧∃t,w'=Lib.bytesWorld w 5 t:=Any.strconv_Atoi Tryz.Tm s n hl h w
open Go.RowKit De Wd
theorem Qk:∀n:Nat,n≤31→(wM n).size≤2∧Lib.atoi (wM n).data.toList=some (n:Int):=by decide +kernel
theorem Tn {c:Int} (h:0≤c∧c≤31):(wM c).size≤2∧Lib.atoi (wM c).data.toList=some c:=by
 obtain⟨n,rfl⟩:=Int.eq_ofNat_of_zero_le h.1
 exact Qk n (by omega)
theorem pY (p k d:Nat) (U:List Uw) (V:Pm.Ws) (hV:iq V U) (wv tv rv ti ri:Value) (c:Int) (w:World) (h:PI w p U k d wv tv rv ti ri) (hv:V[k]? = some (2,sb (wM c))) (hc:0≤c∧c≤31) :
 Calls Tryz.prog 92 #[.pointer (some ⟨p,0,none⟩)] w fun x w'=>x=.returned (.int .i64 c)∧Ch w w' p∧PI w' p U (k+1) d wv tv rv ti ri:=by
 obtain⟨⟨qk,qb,qn⟩,hqq⟩:=hV.at h.le
 obtain⟨e1,e2⟩:=jM hV hqq hv
 dsimp only at e1 e2
 obtain rfl:(2:Int)=qk:=e1.symm
 obtain⟨b,hb0⟩:∃b,b=wM c:=⟨_,rfl⟩
 obtain⟨hs,ha⟩:=Tn hc
 rw[←hb0] at e2 hs ha
 obtain rfl:b=qb:=e2.symm
 have ht:iU 2 ((2:Int),b,qn)=true:=rfl
 have hs3:decide ((b.size:Int)>3)=false:=by simp;omega
 have HP:=Lib.hid h
 have HT:=Lib.hid ht
 have HQ:=Lib.hid hqq
 have HN:=Lib.hid (fun w=>Tryz.strconv_Atoi b c (by omega) ha w)
 clear h hv ht hqq ha hb0 e1 e2
 go_enter Tryz.func92,Tryz.ntmps92
 go_wp2_with fail
 refine(dO 2 _).mono ?_
 rintro x Co ⟨b11,rfl,hbx,hbt⟩
 have HT1:=Lib.hid (And.intro (HP.out.moved hbt) (And.intro hbx hbt))
 clear hbx hbt
 go_wp2_with fail
 refine(rz p k d U wv tv rv ti ri 2 b11 ((2:Int),b,qn) _ (by decide) HT1.out.1 HQ.out HT1.out.2.1 HT.out).mono ?_
 rintro x w1 ⟨rfl,hc1,hx1⟩
 replace hc1:=(Ch.of (p:=p) HT1.out.2.2).trans hc1
 have hbel:=ah (Below.refl w1.heap.size w1) (.cells #[.int .i64 2,.string b,.int .i64 qn] 72)
 have H1:=Lib.hid (And.intro (hx1.moved hbel) (And.intro (hc1.trans (Ch.of hbel)) (heap_alloc_new w1 (.cells #[.int .i64 2,.string b,.int .i64 qn] 72))))
 have hsl:(b.size:Int)≤9223372036854775807:=by omega
 clear hx1 hc1 hbel
 go_wp2_with fail
 refine(HN.out _).mono ?_
 rintro x w2 ⟨rfl,t,rfl⟩
 have hb2:=Lib.bytesWorld_below (w1.alloc (.cells #[.int .i64 2,.string b,.int .i64 qn] 72)) 5 t
 have H2:=Lib.hid (And.intro (H1.out.1.moved hb2) (H1.out.2.1.trans (Ch.of hb2)))
 clear hb2
 go_wp2_with fail
 go_ret
 exact⟨rfl,H2.out.2,H2.out.1⟩
end Go.Proofs.YtfkmajjgkdjncaaGreatDoor

/-
  The walk of the document's Text.
-/
import Derived.Test.YtkebplapjkefiaaDoorDig
namespace Go.Proofs.YtkebplapjkefiaaDoor
open Go.RowKit Go.Lib

set_option maxRecDepth 100000 in
set_option maxHeartbeats 2000000 in
theorem rtext_any (c : Cf) (hi : In c) (w : World) : Calls Tryd.prog 16 #[cfv c] w fun e w' => e = .returned (.string (bs (txt c))) ∧ Below w.heap.size w w' := by
  have Kw := fun w => digits_any c.w hi.w w
  have lw := itoa_len hi.w
  have Kh := fun w => digits_any c.h hi.h w
  have lh := itoa_len hi.h
  have Kl := fun w => digits_any c.l hi.l w
  have ll := itoa_len hi.l
  have Kd := fun w => digits_any c.d hi.d w
  have ld := itoa_len hi.d
  have Kr := fun w => digits_any c.r hi.r w
  have lr := itoa_len hi.r
  have Ki := fun w => digits_any c.i hi.i w
  have li := itoa_len hi.i
  have Kb := fun w => digits_any c.b hi.b w
  have lb := itoa_len hi.b
  have b0 : Hid (∀ n, Below w.heap.size w ((w.alloc (.cells (cfc c) 23)).drewN n)) := fun n => by
    have h := (At.start w c).below
    exact ⟨h.os, h.tape, h.output, h.size, h.block⟩
  obtain ⟨TX, hTX⟩ : ∃ t, t = bs (txt c) := ⟨_, rfl⟩
  rw [← hTX]
  have HTX : Hid (TX = bs (txt c)) := hTX
  clear hTX
  have A0 := fun w => add_str (itoa c.w) ([120]) (by simp; omega) w
  have A1 := fun w => add_str (itoa c.w ++ [120]) (itoa c.h) (by simp; omega) w
  have A2 := fun w => add_str (itoa c.w ++ [120] ++ itoa c.h) ([32]) (by simp; omega) w
  have A3 := fun w => add_str (itoa c.w ++ [120] ++ itoa c.h ++ [32]) (itoa c.l) (by simp; omega) w
  have A4 := fun w => add_str (itoa c.w ++ [120] ++ itoa c.h ++ [32] ++ itoa c.l) ([32]) (by simp; omega) w
  have A5 := fun w => add_str (itoa c.w ++ [120] ++ itoa c.h ++ [32] ++ itoa c.l ++ [32]) (itoa c.d) (by simp; omega) w
  have A6 := fun w => add_str (itoa c.w ++ [120] ++ itoa c.h ++ [32] ++ itoa c.l ++ [32] ++ itoa c.d) ([32]) (by simp; omega) w
  have A7 := fun w => add_str (itoa c.w ++ [120] ++ itoa c.h ++ [32] ++ itoa c.l ++ [32] ++ itoa c.d ++ [32]) (itoa c.r) (by simp; omega) w
  have A8 := fun w => add_str (itoa c.w ++ [120] ++ itoa c.h ++ [32] ++ itoa c.l ++ [32] ++ itoa c.d ++ [32] ++ itoa c.r) ([32]) (by simp; omega) w
  have A9 := fun w => add_str (itoa c.w ++ [120] ++ itoa c.h ++ [32] ++ itoa c.l ++ [32] ++ itoa c.d ++ [32] ++ itoa c.r ++ [32]) (itoa c.i) (by simp; omega) w
  have A10 := fun w => add_str (itoa c.w ++ [120] ++ itoa c.h ++ [32] ++ itoa c.l ++ [32] ++ itoa c.d ++ [32] ++ itoa c.r ++ [32] ++ itoa c.i) ([32]) (by simp; omega) w
  have A11 := fun w => add_str (itoa c.w ++ [120] ++ itoa c.h ++ [32] ++ itoa c.l ++ [32] ++ itoa c.d ++ [32] ++ itoa c.r ++ [32] ++ itoa c.i ++ [32]) (itoa c.b) (by simp; omega) w
  have B1 := fun w => add_str (itoa c.w ++ [120] ++ itoa c.h ++ [32] ++ itoa c.l ++ [32] ++ itoa c.d ++ [32] ++ itoa c.r ++ [32] ++ itoa c.i ++ [32] ++ itoa c.b) [32, 119, 101, 115, 116] (by simp; omega) w
  have B2 := fun w => add_str (itoa c.w ++ [120] ++ itoa c.h ++ [32] ++ itoa c.l ++ [32] ++ itoa c.d ++ [32] ++ itoa c.r ++ [32] ++ itoa c.i ++ [32] ++ itoa c.b) [32, 99, 97, 115, 116] (by simp; omega) w
  have B3 := fun w => add_str (itoa c.w ++ [120] ++ itoa c.h ++ [32] ++ itoa c.l ++ [32] ++ itoa c.d ++ [32] ++ itoa c.r ++ [32] ++ itoa c.i ++ [32] ++ itoa c.b ++ [32, 119, 101, 115, 116]) [32, 99, 97, 115, 116] (by simp; omega) w
  have X0 : c.we = false → c.ca = false → TX = bs (itoa c.w ++ [120] ++ itoa c.h ++ [32] ++ itoa c.l ++ [32] ++ itoa c.d ++ [32] ++ itoa c.r ++ [32] ++ itoa c.i ++ [32] ++ itoa c.b) := fun h1 h2 => by rw [HTX.out]; unfold txt tailW tailC; simp [h1, h2]
  have X1 : c.we = true → c.ca = false → TX = bs (itoa c.w ++ [120] ++ itoa c.h ++ [32] ++ itoa c.l ++ [32] ++ itoa c.d ++ [32] ++ itoa c.r ++ [32] ++ itoa c.i ++ [32] ++ itoa c.b ++ [32, 119, 101, 115, 116]) := fun h1 h2 => by rw [HTX.out]; unfold txt tailW tailC west; simp [h1, h2]
  have X2 : c.we = false → c.ca = true → TX = bs (itoa c.w ++ [120] ++ itoa c.h ++ [32] ++ itoa c.l ++ [32] ++ itoa c.d ++ [32] ++ itoa c.r ++ [32] ++ itoa c.i ++ [32] ++ itoa c.b ++ [32, 99, 97, 115, 116]) := fun h1 h2 => by rw [HTX.out]; unfold txt tailW tailC cast; simp [h1, h2]
  have X3 : c.we = true → c.ca = true → TX = bs (itoa c.w ++ [120] ++ itoa c.h ++ [32] ++ itoa c.l ++ [32] ++ itoa c.d ++ [32] ++ itoa c.r ++ [32] ++ itoa c.i ++ [32] ++ itoa c.b ++ [32, 119, 101, 115, 116] ++ [32, 99, 97, 115, 116]) := fun h1 h2 => by rw [HTX.out]; unfold txt tailW tailC west cast; simp [h1, h2]
  generalize bs (itoa c.w ++ [120] ++ itoa c.h ++ [32] ++ itoa c.l ++ [32] ++ itoa c.d ++ [32] ++ itoa c.r ++ [32] ++ itoa c.i ++ [32] ++ itoa c.b ++ [32, 119, 101, 115, 116] ++ [32, 99, 97, 115, 116]) = FB at *
  generalize bs (itoa c.w ++ [120] ++ itoa c.h ++ [32] ++ itoa c.l ++ [32] ++ itoa c.d ++ [32] ++ itoa c.r ++ [32] ++ itoa c.i ++ [32] ++ itoa c.b ++ [32, 119, 101, 115, 116]) = FW at *
  generalize bs (itoa c.w ++ [120] ++ itoa c.h ++ [32] ++ itoa c.l ++ [32] ++ itoa c.d ++ [32] ++ itoa c.r ++ [32] ++ itoa c.i ++ [32] ++ itoa c.b ++ [32, 99, 97, 115, 116]) = FC at *
  generalize bs (itoa c.w ++ [120] ++ itoa c.h ++ [32] ++ itoa c.l ++ [32] ++ itoa c.d ++ [32] ++ itoa c.r ++ [32] ++ itoa c.i ++ [32] ++ itoa c.b) = S11 at *
  generalize bs (itoa c.w ++ [120] ++ itoa c.h ++ [32] ++ itoa c.l ++ [32] ++ itoa c.d ++ [32] ++ itoa c.r ++ [32] ++ itoa c.i ++ [32]) = S10 at *
  generalize bs (itoa c.w ++ [120] ++ itoa c.h ++ [32] ++ itoa c.l ++ [32] ++ itoa c.d ++ [32] ++ itoa c.r ++ [32] ++ itoa c.i) = S9 at *
  generalize bs (itoa c.w ++ [120] ++ itoa c.h ++ [32] ++ itoa c.l ++ [32] ++ itoa c.d ++ [32] ++ itoa c.r ++ [32]) = S8 at *
  generalize bs (itoa c.w ++ [120] ++ itoa c.h ++ [32] ++ itoa c.l ++ [32] ++ itoa c.d ++ [32] ++ itoa c.r) = S7 at *
  generalize bs (itoa c.w ++ [120] ++ itoa c.h ++ [32] ++ itoa c.l ++ [32] ++ itoa c.d ++ [32]) = S6 at *
  generalize bs (itoa c.w ++ [120] ++ itoa c.h ++ [32] ++ itoa c.l ++ [32] ++ itoa c.d) = S5 at *
  generalize bs (itoa c.w ++ [120] ++ itoa c.h ++ [32] ++ itoa c.l ++ [32]) = S4 at *
  generalize bs (itoa c.w ++ [120] ++ itoa c.h ++ [32] ++ itoa c.l) = S3 at *
  generalize bs (itoa c.w ++ [120] ++ itoa c.h ++ [32]) = S2 at *
  generalize bs (itoa c.w ++ [120] ++ itoa c.h) = S1 at *
  generalize bs (itoa c.w ++ [120]) = S0 at *
  generalize bs (itoa c.w) = Dw at *
  generalize bs (itoa c.h) = Dh at *
  generalize bs (itoa c.l) = Dl at *
  generalize bs (itoa c.d) = Dd at *
  generalize bs (itoa c.r) = Dr at *
  generalize bs (itoa c.i) = Di at *
  generalize bs (itoa c.b) = Db at *
  clear lw lh ll ld lr li lb HTX hi
  obtain ⟨cw, ch, cl, cd, cr, ci, cb, we, ca⟩ := c
  simp only [cfv, cfc] at *
  cases we <;> cases ca
  · have X : Hid (TX = S11) := X0 rfl rfl
    go_enter Tryd.func16, Tryd.ntmps16
    go_wp2
    go_quiet ((go_at_call 24; (first | with_reducible exact Calls.quiet_of (Kw _) | with_reducible exact Calls.quiet_of (Kh _) | with_reducible exact Calls.quiet_of (Kl _) | with_reducible exact Calls.quiet_of (Kd _) | with_reducible exact Calls.quiet_of (Kr _) | with_reducible exact Calls.quiet_of (Ki _) | with_reducible exact Calls.quiet_of (Kb _))))
    go_wp2
    go_ret
    exact ⟨ret_str X.out.symm, b0.out _⟩
  · have X : Hid (TX = FC) := X2 rfl rfl
    go_enter Tryd.func16, Tryd.ntmps16
    go_wp2
    go_quiet ((go_at_call 24; (first | with_reducible exact Calls.quiet_of (Kw _) | with_reducible exact Calls.quiet_of (Kh _) | with_reducible exact Calls.quiet_of (Kl _) | with_reducible exact Calls.quiet_of (Kd _) | with_reducible exact Calls.quiet_of (Kr _) | with_reducible exact Calls.quiet_of (Ki _) | with_reducible exact Calls.quiet_of (Kb _))))
    go_wp2
    go_ret
    exact ⟨ret_str X.out.symm, b0.out _⟩
  · have X : Hid (TX = FW) := X1 rfl rfl
    go_enter Tryd.func16, Tryd.ntmps16
    go_wp2
    go_quiet ((go_at_call 24; (first | with_reducible exact Calls.quiet_of (Kw _) | with_reducible exact Calls.quiet_of (Kh _) | with_reducible exact Calls.quiet_of (Kl _) | with_reducible exact Calls.quiet_of (Kd _) | with_reducible exact Calls.quiet_of (Kr _) | with_reducible exact Calls.quiet_of (Ki _) | with_reducible exact Calls.quiet_of (Kb _))))
    go_wp2
    go_ret
    exact ⟨ret_str X.out.symm, b0.out _⟩
  · have X : Hid (TX = FB) := X3 rfl rfl
    go_enter Tryd.func16, Tryd.ntmps16
    go_wp2
    go_quiet ((go_at_call 24; (first | with_reducible exact Calls.quiet_of (Kw _) | with_reducible exact Calls.quiet_of (Kh _) | with_reducible exact Calls.quiet_of (Kl _) | with_reducible exact Calls.quiet_of (Kd _) | with_reducible exact Calls.quiet_of (Kr _) | with_reducible exact Calls.quiet_of (Ki _) | with_reducible exact Calls.quiet_of (Kb _))))
    go_wp2
    go_ret
    exact ⟨ret_str X.out.symm, b0.out _⟩
end Go.Proofs.YtkebplapjkefiaaDoor

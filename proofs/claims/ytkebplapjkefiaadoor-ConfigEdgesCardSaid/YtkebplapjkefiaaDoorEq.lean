/-
  Two configs compared; a text cut at its hundredth byte.
-/
import Derived.Test.YtkebplapjkefiaaDoorLives
namespace Go.Proofs.YtkebplapjkefiaaDoor
open Go.RowKit Go.Lib

def Cf.eqB (f g : Cf) : Bool := f.w == g.w && (f.h == g.h && (f.l == g.l && (f.d == g.d && (f.r == g.r && (f.i == g.i && (f.b == g.b && (f.we == g.we && f.ca == g.ca)))))))
theorem Cf.eqB_self (f : Cf) : f.eqB f = true := by unfold Cf.eqB; simp
theorem Cf.eqB_of {f g : Cf} (h : f = g) : f.eqB g = true := by subst h; exact f.eqB_self

theorem Tryd.cfFields : Tryd.prog.underlying 23 = some (.struct (Tryd.prog.fieldsOf 23)) := by kernel_rfl
theorem Tryd.cfHeld : Tryd.prog.stoodInHeld 23 = false := by kernel_rfl
theorem Tryd.cfGuard : Tryd.prog.eqGuardType Tryd.prog.depth 23 = false := by kernel_rfl

theorem run_equal_cf (f g : Cf) (w : World) : (Op.equalIn 10000 23 (cfv f) (cfv g)).run Tryd.prog w = .ok (f.eqB g) w := by
  have u3 := Tryd.underlying3
  have u4 := Tryd.underlying4
  have a3 := Tryd.isAgg3
  have z3 := Tryd.sizeOf3
  have a4 := Tryd.isAgg4
  have z4 := Tryd.sizeOf4
  rw [show (10000 : Nat) = 9999 + 1 from rfl, cfv, cfv, run_equalIn_agg w 9999 23 _ _ Tryd.cfFields Tryd.cfHeld]
  simp only [Program.fieldsOf, Tryd.underlying23, cfc]
  unfold Cf.eqB
  generalize h1 : (f.w == g.w) = b1
  generalize h2 : (f.h == g.h) = b2
  generalize h3 : (f.l == g.l) = b3
  generalize h4 : (f.d == g.d) = b4
  generalize h5 : (f.r == g.r) = b5
  generalize h6 : (f.i == g.i) = b6
  generalize h7 : (f.b == g.b) = b7
  generalize h8 : (f.we == g.we) = b8
  generalize h9 : (f.ca == g.ca) = b9
  go_simp
  cases b1 <;> cases b2 <;> cases b3 <;> cases b4 <;> cases b5 <;> cases b6 <;> cases b7 <;> cases b8 <;> cases b9 <;> simp

theorem run_eq_cf (f g : Cf) (w : World) : (binOp .eql 23 (cfv f) (cfv g)).run Tryd.prog w = .ok (.bool (f.eqB g)) w := by
  rw [cfv, cfv, run_eql_struct, run_equal_cf]
  rfl
theorem run_ne_cf (f g : Cf) (w : World) : (binOp .neq 23 (cfv f) (cfv g)).run Tryd.prog w = .ok (.bool (!(f.eqB g))) w := by
  rw [cfv, cfv, run_neq_struct, run_equal_cf]
  rfl

theorem bs_data (X : ByteArray) : bs X.data.toList = X := by
  apply ByteArray.ext
  simp
theorem cut_100 (S : ByteArray) : ∃ X : ByteArray, S.extract 0 (min (S.size : Int) 100).toNat = X ∧ X.data.toList = S.data.toList.take 100 := by
  refine ⟨_, rfl, ?_⟩
  rw [ByteArray.data_extract, Array.toList_extract]
  have hS : S.data.toList.length = S.size := by rw [Array.length_toList]; rfl
  simp only [List.extract, List.drop_zero, Nat.sub_zero]
  by_cases h : S.size ≤ 100
  · rw [show (min (S.size : Int) 100).toNat = S.size by omega, List.take_of_length_le (by omega), List.take_of_length_le (by omega)]
  · rw [show (min (S.size : Int) 100).toNat = 100 by omega]
end Go.Proofs.YtkebplapjkefiaaDoor

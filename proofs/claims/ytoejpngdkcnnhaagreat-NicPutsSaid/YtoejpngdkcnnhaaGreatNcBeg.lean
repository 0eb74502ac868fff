/-
  The program's nic: Begun, where nothing has begun. (Written by gen_nbeg.py.)
-/
import Derived.Test.YtoejpngdkcnnhaaGreatNcGet
import Derived.Laws.Tables
import Derived.Laws.CopyRow
import Derived.Laws.Rows
namespace Go.Proofs.YtoejpngdkcnnhaaGreat
open Go.RowKit

/-- Some cells of a block read. -/
theorem wpList_load_part {P : Program} {ops : Array Oper} {rest : List Oper} {o : Oper} {a : Act} {w : World} {Q : Exit → Act → World → Prop} (hgd : o.guard = none) (ty : TypeId) (x : Operand) (ho : o.op = .load ty x)
    (g k : Nat) (hx : a.eval x = .pointer (some ⟨g, k, none⟩)) (cs : Array Value) (d : TypeDesc) (hc : ∀ (j : Nat) (v : Value), cs[j]? = some v → w.cell? ⟨g, k + j, none⟩ = some v)
    (hu : P.underlying ty = some d) (hd : (match d with | .struct _ | .array _ _ => true | _ => false) = true) (hi : (P.info? ty).map (·.size) = some cs.size)
    (h : wpList P ops Q rest (a.put o.dst (.agg cs)) w) : wpList P ops Q (o :: rest) a w := by
  refine wpList_plain hgd fun K hK => ?_
  have hl : (loadCells ⟨g, k, none⟩ cs.toList.length).run P w = .ok cs.toList.toArray w :=
    run_loadCells_list (P := P) w ⟨g, k, none⟩ cs.toList (fun j v hv => by
      have hadd : (⟨g, k, none⟩ : Addr).add j = ⟨g, k + j, none⟩ := by unfold Addr.add; split <;> simp_all
      rw [hadd]
      exact hc j v (by simpa using hv))
  have hr : (loadVar ty ⟨g, k, none⟩).run P w = .ok (.agg cs) w := by
    cases hq : P.info? ty with
    | none => simp [hq] at hi
    | some i =>
      have hs : i.size = cs.size := by simpa [hq] using hi
      have hagg : (isAgg ty).run P w = .ok true w := by
        unfold isAgg
        rw [Sem.run_bind, run_underlying hu w]
        cases d <;> simp_all
      simp only [Array.length_toList, Array.toArray_toList] at hl
      simp [loadVar, Sem.run_bind, hagg, sizeOf, typeInfo, hq, hs, hl]
  unfold Oper.wp execOp
  simp only [ho, hx, Instr.loadAt, Instr.sureAddr, Sem.run_bind, Sem.run_pure, Result.andThen_ok, hr]
  exact hK _ _ h
/-- An element of an array of arrays; of an array of plain things. -/
theorem run_index_row {P : Program} (w : World) (t e : TypeId) (n m : Nat) (cs : Array Value) (i : Nat) (d : TypeDesc) (h : P.underlying t = some (.array n e)) (hi : i < n) (hd : (match d with | .struct _ | .array _ _ => true | _ => false) = true) (hu : P.underlying e = some d) (hs : (P.info? e).map (·.size) = some m) :
    (Instr.index t (.agg cs) (.int .i64 (i : Int))).run P w = .ok (.agg (cs.extract (i * m) (i * m + m))) w := by
  cases hq : P.info? e with
  | none => simp [hq] at hs
  | some q =>
    have hz : q.size = m := by simpa [hq] using hs
    have hagg : (isAgg e).run P w = .ok true w := by
      unfold isAgg
      rw [Sem.run_bind, run_underlying hu w]
      cases d <;> simp_all
    have h0 : 0 ≤ (i : Int) ∧ (i : Int) < (n : Int) := by omega
    simp [Instr.index, asIntOf, run_underlying h, part, hagg, sizeOf, typeInfo, hq, hz, go_sem]
    omega
theorem run_index_one {P : Program} (w : World) (t e : TypeId) (n : Nat) (cs : Array Value) (i : Nat) (v : Value) (d : TypeDesc) (h : P.underlying t = some (.array n e)) (hi : i < n) (hd : (match d with | .struct _ | .array _ _ => true | _ => false) = false) (hu : P.underlying e = some d) (hs : (P.info? e).map (·.size) = some 1) (hv : cs[i]? = some v) :
    (Instr.index t (.agg cs) (.int .i64 (i : Int))).run P w = .ok v w := by
  cases hq : P.info? e with
  | none => simp [hq] at hs
  | some q =>
    have hz : q.size = 1 := by simpa [hq] using hs
    have hagg : (isAgg e).run P w = .ok false w := by
      unfold isAgg
      rw [Sem.run_bind, run_underlying hu w]
      cases d <;> simp_all
    have h0 : 0 ≤ (i : Int) ∧ (i : Int) < (n : Int) := by omega
    simp [Instr.index, asIntOf, run_underlying h, part, hagg, sizeOf, typeInfo, hq, hz, hv, go_sem]
    omega
theorem row_of (q : Nat → Option Addr) (p : Nat) (hp : p < 5) : ((List.range 40).map fun k => Value.pointer (q k)).toArray.extract (p * 8) (p * 8 + 8) = #[.pointer (q (p * 8)), .pointer (q (p * 8 + 1)), .pointer (q (p * 8 + 2)), .pointer (q (p * 8 + 3)), .pointer (q (p * 8 + 4)), .pointer (q (p * 8 + 5)), .pointer (q (p * 8 + 6)), .pointer (q (p * 8 + 7))] := by
  obtain rfl | rfl | rfl | rfl | rfl : p = 0 ∨ p = 1 ∨ p = 2 ∨ p = 3 ∨ p = 4 := by omega
  all_goals rfl
set_option maxRecDepth 100000 in
set_option maxHeartbeats 4000000 in
theorem begun_zero {w : World} {b : Nat} {q : Nat → Option Addr} (w1 : World) (a : Option Addr) (hb1 : Below w.heap.size w w1) (CL : Calls Tryz.prog 28 #[.pointer a] w fun e w' => e = .returned (.pointer (some ⟨b, 0, none⟩)) ∧ w1 = w') (hc : ∀ k, k < 40 → w1.cell? ⟨b, 14 + k, none⟩ = some (.pointer (q k)))
    (hJ : ∀ k, k < 40 → ∀ v, Below w1.heap.size w1 v → Calls Tryz.prog 39 #[.pointer (q k)] v fun e w' => e = .returned (.bool false) ∧ v = w') :
    Calls Tryz.prog 19 #[.pointer a] w fun e w' => e = .returned (.int .i64 0) ∧ Below w.heap.size w w' := by
  have HB : Hid (Below w.heap.size w w1) := hb1
  have HJ : Hid (∀ k, k < 40 → ∀ v, Below w1.heap.size w1 v → Calls Tryz.prog 39 #[.pointer (q k)] v fun e w' => e = .returned (.bool false) ∧ v = w') := hJ
  have HC : Hid (∀ (j : Nat) (v : Value), ((List.range 40).map fun k => Value.pointer (q k)).toArray[j]? = some v → w1.cell? ⟨b, 14 + j, none⟩ = some v) := show _ from fun j v hj => by
    rw [List.getElem?_toArray, List.getElem?_map] at hj
    by_cases h : j < 40
    · rw [List.getElem?_range h] at hj
      cases hj
      exact hc j h
    · rw [List.getElem?_eq_none (by simp; omega)] at hj
      cases hj
  have hs0 : (Tryz.prog.info? 71).map (·.size) = some ((List.range 40).map fun k => Value.pointer (q k)).toArray.size := by
    have : ((List.range 40).map fun k => Value.pointer (q k)).toArray.size = 40 := by simp
    have k40 : (Tryz.prog.info? 71).map (·.size) = some 40 := by kernel_rfl
    rw [this]
    exact k40
  have HS : Hid ((Tryz.prog.info? 71).map (·.size) = some ((List.range 40).map fun k => Value.pointer (q k)).toArray.size) := hs0
  clear hs0
  have HR0 : ∀ (p : Nat), p < 5 → ∀ w, (Instr.index 71 (.agg ((List.range 40).map fun k => Value.pointer (q k)).toArray) (.int .i64 (p : Int))).run Tryz.prog w = .ok (.agg #[.pointer (q (p * 8)), .pointer (q (p * 8 + 1)), .pointer (q (p * 8 + 2)), .pointer (q (p * 8 + 3)), .pointer (q (p * 8 + 4)), .pointer (q (p * 8 + 5)), .pointer (q (p * 8 + 6)), .pointer (q (p * 8 + 7))]) w := fun p hp w => by
    rw [← row_of q p hp]
    exact run_index_row w 71 70 5 8 _ p _ Tryz.underlying71 hp rfl Tryz.underlying70 (by kernel_rfl)
  have HO0 : ∀ (p l : Nat), l < 8 → ∀ w, (Instr.index 70 (.agg #[.pointer (q (p * 8)), .pointer (q (p * 8 + 1)), .pointer (q (p * 8 + 2)), .pointer (q (p * 8 + 3)), .pointer (q (p * 8 + 4)), .pointer (q (p * 8 + 5)), .pointer (q (p * 8 + 6)), .pointer (q (p * 8 + 7))]) (.int .i64 (l : Int))).run Tryz.prog w = .ok (.pointer (q (p * 8 + l))) w := fun p l hl w => by
    refine run_index_one w 70 69 8 _ l _ _ Tryz.underlying70 hl rfl Tryz.underlying69 (by kernel_rfl) ?_
    obtain rfl | rfl | rfl | rfl | rfl | rfl | rfl | rfl : l = 0 ∨ l = 1 ∨ l = 2 ∨ l = 3 ∨ l = 4 ∨ l = 5 ∨ l = 6 ∨ l = 7 := by omega
    all_goals rfl
  generalize ((List.range 40).map fun k => Value.pointer (q k)).toArray = JA at *
  have HR : Hid (∀ (p : Nat), p < 5 → ∀ w, (Instr.index 71 (.agg JA) (.int .i64 (p : Int))).run Tryz.prog w = .ok (.agg #[.pointer (q (p * 8)), .pointer (q (p * 8 + 1)), .pointer (q (p * 8 + 2)), .pointer (q (p * 8 + 3)), .pointer (q (p * 8 + 4)), .pointer (q (p * 8 + 5)), .pointer (q (p * 8 + 6)), .pointer (q (p * 8 + 7))]) w) := HR0
  have HO : Hid (∀ (p l : Nat), l < 8 → ∀ w, (Instr.index 70 (.agg #[.pointer (q (p * 8)), .pointer (q (p * 8 + 1)), .pointer (q (p * 8 + 2)), .pointer (q (p * 8 + 3)), .pointer (q (p * 8 + 4)), .pointer (q (p * 8 + 5)), .pointer (q (p * 8 + 6)), .pointer (q (p * 8 + 7))]) (.int .i64 (l : Int))).run Tryz.prog w = .ok (.pointer (q (p * 8 + l))) w) := HO0
  clear HR0 HO0
  clear hb1 hJ hc
  go_enter Tryz.func19, Tryz.ntmps19
  go_wp2_with fail
  go_at_call 28
  with_reducible refine CL.mono ?_
  rintro e v ⟨rfl, rfl⟩
  go_wp2_with (refine wpList_load_part rfl 71 (.tmp 11) rfl b 14 rfl JA _ HC.out Tryz.underlying71 rfl HS.out ?_)
  have HL : Hid (Below w.heap.size w w1) := HB.out
  have HZ : Hid (∀ u, Below w1.heap.size w1 u → Below w.heap.size w u) := show _ from fun u hu => HB.out.trans (hu.mono HB.out.size)
  clear HC HS HB HL
  go_loopw [3, 13] (fun z x wr => ∃ p : Nat, p ≤ 5 ∧ x = .int .i64 (p : Int) ∧ z = .int .i64 0 ∧ Below w1.heap.size w1 wr) (fun _ x _ => 5 - (RowKit.intOf x).toNat)
  case atStart => exact ⟨0, Nat.zero_le _, rfl, rfl, Below.refl _ _⟩
  case round =>
    obtain ⟨p, hp, rfl, rfl, wb⟩ := hrel
    have WB : Hid (Below w1.heap.size w1 wr) := wb
    clear wb
    by_cases hlt : p < 5
    case neg =>
      have e1 : ¬ (p : Int) < 5 := by omega
      go_wp2
      go_ret
      exact ⟨rfl, HZ.out _ WB.out⟩
    have e1 : (p : Int) < 5 := by omega
    have e2 : (0 : Int) ≤ (p : Int) := by omega
    have i1 := HR.out p hlt
    go_wp2_with fail
    have wb2 : Below w1.heap.size w1 (wr.alloc (.cells #[.pointer (q (p * 8)), .pointer (q (p * 8 + 1)), .pointer (q (p * 8 + 2)), .pointer (q (p * 8 + 3)), .pointer (q (p * 8 + 4)), .pointer (q (p * 8 + 5)), .pointer (q (p * 8 + 6)), .pointer (q (p * 8 + 7))] 70)) := WB.out.alloc WB.out.size _
    have WB2 : Hid (Below w1.heap.size w1 (wr.alloc (.cells #[.pointer (q (p * 8)), .pointer (q (p * 8 + 1)), .pointer (q (p * 8 + 2)), .pointer (q (p * 8 + 3)), .pointer (q (p * 8 + 4)), .pointer (q (p * 8 + 5)), .pointer (q (p * 8 + 6)), .pointer (q (p * 8 + 7))] 70))) := wb2
    have HP : Hid (p < 5) := hlt
    have HO2 : Hid (∀ l : Nat, l < 8 → ∀ w, (Instr.index 70 (.agg #[.pointer (q (p * 8)), .pointer (q (p * 8 + 1)), .pointer (q (p * 8 + 2)), .pointer (q (p * 8 + 3)), .pointer (q (p * 8 + 4)), .pointer (q (p * 8 + 5)), .pointer (q (p * 8 + 6)), .pointer (q (p * 8 + 7))]) (.int .i64 (l : Int))).run Tryz.prog w = .ok (.pointer (q (p * 8 + l))) w) := show _ from fun l hl => HO.out p l hl
    clear wb2 WB i1 HR HO hlt hp
    generalize wr.alloc (.cells #[.pointer (q (p * 8)), .pointer (q (p * 8 + 1)), .pointer (q (p * 8 + 2)), .pointer (q (p * 8 + 3)), .pointer (q (p * 8 + 4)), .pointer (q (p * 8 + 5)), .pointer (q (p * 8 + 6)), .pointer (q (p * 8 + 7))] 70) = v2 at *
    generalize wr.heap.size = n2 at *
    generalize (#[.pointer (q (p * 8)), .pointer (q (p * 8 + 1)), .pointer (q (p * 8 + 2)), .pointer (q (p * 8 + 3)), .pointer (q (p * 8 + 4)), .pointer (q (p * 8 + 5)), .pointer (q (p * 8 + 6)), .pointer (q (p * 8 + 7))] : Array Value) = RW at *
    obtain ⟨wo, rfl⟩ : ∃ wo : World, wo = v2 := ⟨_, rfl⟩
    go_loopw [3, 17] (fun z x wq => ∃ l : Nat, l ≤ 8 ∧ x = .int .i64 (l : Int) ∧ z = .int .i64 0 ∧ Below w1.heap.size w1 wq) (fun _ x _ => 8 - (RowKit.intOf x).toNat)
    case atStart => exact ⟨0, Nat.zero_le _, rfl, rfl, WB2.out⟩
    case round =>
      clear WB2
      obtain ⟨l, hl, rfl, rfl, wb⟩ := hrel
      have WB : Hid (Below w1.heap.size w1 wr) := wb
      clear wb
      by_cases hlt : l < 8
      case neg =>
        have g1 : ¬ (l : Int) < 8 := by omega
        have hp := HP.out
        go_wp2
        go_roundw
        case rel => exact ⟨p + 1, by omega, by go_num, rfl, WB.out⟩
        case measure => simp [RowKit.intOf]; omega
      have g1 : (l : Int) < 8 := by omega
      have g2 : (0 : Int) ≤ (l : Int) := by omega
      have i1 := HO2.out l hlt
      have hp := HP.out
      have CJ := HJ.out (p * 8 + l) (by omega) wr WB.out
      go_wp2_with (go_at_call 39; with_reducible refine CJ.mono ?_; rintro e v3 ⟨rfl, rfl⟩)
      go_roundw
      case rel => exact ⟨l + 1, by omega, by go_num, rfl, WB.out⟩
      case measure => simp [RowKit.intOf]; omega
end Go.Proofs.YtoejpngdkcnnhaaGreat

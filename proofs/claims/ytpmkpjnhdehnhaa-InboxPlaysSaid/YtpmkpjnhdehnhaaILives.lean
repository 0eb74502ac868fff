/-
  One that comes too early.
-/
import Derived.Test.YtpmkpjnhdehnhaaIOps
namespace Go.Proofs.Ytpmkpjnhdehnhaa
open Go.RowKit

def lvA : Pk := ⟨3, 0, 1, ⟨#[98]⟩⟩
def lvB : Pk := ⟨3, 0, 0, ⟨#[97]⟩⟩
def lv1 : IS := comeS (newI 4) lvA
def lv2 : IS := comeS lv1 lvB
def lv3 : IS := tellS lv2
def lv4 : IS := tellS lv3
def lv5 : IS := recvS lv4
theorem lives_facts : roomN 4 = 4 ∧ comeE (newI 4) lvA = 0 ∧ tellB lv1 = false ∧ tellS lv1 = lv1 ∧ comeE lv1 lvB = 0 ∧ tellB lv2 = true ∧ tellB lv3 = true ∧ recvV lv4 = lvB ∧ recvE lv4 = 0 ∧ lv5.L.length = 1 ∧ lv5.nx 3 = 2 :=
  ⟨by decide, by decide, by decide, rfl, by decide, by decide, by decide, rfl, by decide, by decide, by decide⟩
abbrev NoB : Nat → Prop := fun _ => False
set_option maxRecDepth 100000 in
set_option maxHeartbeats 4000000 in
theorem lives_any (w : World) : Calls Try.prog 10 #[] w fun e w' => e = .returned (.bool true) ∧ Below w.heap.size w w' := by
  obtain ⟨f1, f2, f3, f4, f5, f6, f7, f8, f9, f10, f11⟩ := lives_facts
  have CN := ix_new (w0 := w) (O := NoB) (Below.refl _ w) (fun _ h => h.elim) 4
  rw [f1] at CN
  have C1 : Hid (∀ (v : World) (b : Nat), Ix w v b (newI 4) NoB → Calls Try.prog 17 #[.pointer (some ⟨b, 0, none⟩), .agg #[.int .i64 3, .int .i64 0, .int .i64 1, .string ⟨#[98]⟩]] v fun e v' => e = .returned (.int .i64 0) ∧ Ix w v' b lv1 NoB) := show _ from fun v b h => (ix_come h lvA).mono fun e v' k => ⟨by rw [k.1, f2], k.2.1⟩
  have C2 : Hid (∀ (v : World) (b : Nat), Ix w v b lv1 NoB → Calls Try.prog 19 #[.pointer (some ⟨b, 0, none⟩)] v fun e v' => e = .returned (.bool false) ∧ Ix w v' b lv1 NoB) := show _ from fun v b h => (ix_tell h).mono fun e v' k => ⟨by rw [k.1, f3], by have := k.2.1; rwa [f4] at this⟩
  have C3 : Hid (∀ (v : World) (b : Nat), Ix w v b lv1 NoB → Calls Try.prog 17 #[.pointer (some ⟨b, 0, none⟩), .agg #[.int .i64 3, .int .i64 0, .int .i64 0, .string ⟨#[97]⟩]] v fun e v' => e = .returned (.int .i64 0) ∧ Ix w v' b lv2 NoB) := show _ from fun v b h => (ix_come h lvB).mono fun e v' k => ⟨by rw [k.1, f5], k.2.1⟩
  have C4 : Hid (∀ (v : World) (b : Nat), Ix w v b lv2 NoB → Calls Try.prog 19 #[.pointer (some ⟨b, 0, none⟩)] v fun e v' => e = .returned (.bool true) ∧ Ix w v' b lv3 NoB) := show _ from fun v b h => (ix_tell h).mono fun e v' k => ⟨by rw [k.1, f6], k.2.1⟩
  have C5 : Hid (∀ (v : World) (b : Nat), Ix w v b lv3 NoB → Calls Try.prog 19 #[.pointer (some ⟨b, 0, none⟩)] v fun e v' => e = .returned (.bool true) ∧ Ix w v' b lv4 NoB) := show _ from fun v b h => (ix_tell h).mono fun e v' k => ⟨by rw [k.1, f7], k.2.1⟩
  have C6 : Hid (∀ (v : World) (b : Nat), Ix w v b lv4 NoB → Calls Try.prog 21 #[.pointer (some ⟨b, 0, none⟩)] v fun e v' => e = .returned (.tuple #[.agg #[.int .i64 3, .int .i64 0, .int .i64 0, .string ⟨#[97]⟩], .int .i64 0]) ∧ Ix w v' b lv5 NoB) := show _ from fun v b h => (ix_recv h).mono fun e v' k => ⟨by rw [k.1, f8, f9]; rfl, k.2.1⟩
  have C7 : Hid (∀ (v : World) (b : Nat), Ix w v b lv5 NoB → Calls Try.prog 23 #[.pointer (some ⟨b, 0, none⟩)] v fun e v' => e = .returned (.int .i64 1) ∧ Ix w v' b lv5 NoB) := show _ from fun v b h => (ix_len h).mono fun e v' k => ⟨by rw [k.1, f10]; rfl, k.2.1⟩
  have C8 : Hid (∀ (v : World) (b : Nat), Ix w v b lv5 NoB → Calls Try.prog 26 #[.pointer (some ⟨b, 0, none⟩), .int .i64 3] v fun e v' => e = .returned (.int .i64 2) ∧ Ix w v' b lv5 NoB) := show _ from fun v b h => (ix_next h (s := 3) (by decide)).mono fun e v' k => ⟨by rw [k.1, f11], k.2.1⟩
  clear f1 f2 f3 f4 f5 f6 f7 f8 f9 f10 f11
  generalize lv5 = s5 at *
  generalize lv4 = s4 at *
  generalize lv3 = s3 at *
  generalize lv2 = s2 at *
  generalize lv1 = s1 at *
  generalize newI 4 = s0 at *
  go_enter Try.func10, Try.ntmps10
  go_upto_region 2 with (go_at_call 11; with_reducible refine CN.mono ?_; rintro e v0 ⟨b, rfl, X0, _⟩)
  have L1 := C1.out v0 b X0
  go_upto_region 3 with (go_at_call 17; with_reducible refine L1.mono ?_; rintro e v1 ⟨rfl, X1⟩)
  have L2 := C2.out v1 b X1
  clear L1 X0 C1 CN
  go_upto_region 4 with (go_at_call 19; with_reducible refine L2.mono ?_; rintro e v2 ⟨rfl, X2⟩)
  have L3 := C3.out v2 b X2
  clear L2 X1 C2
  go_upto_region 5 with (go_at_call 17; with_reducible refine L3.mono ?_; rintro e v3 ⟨rfl, X3⟩)
  have L4 := C4.out v3 b X3
  clear L3 X2 C3
  go_wp2_with fail
  go_at_call 19
  with_reducible refine L4.mono ?_
  rintro e v4 ⟨rfl, X4⟩
  have L5 := C5.out v4 b X4
  clear L4 X3 C4
  go_upto_region 6 with (go_at_call 19; with_reducible refine L5.mono ?_; rintro e v5 ⟨rfl, X5⟩)
  have L6 := C6.out v5 b X5
  clear L5 X4 C5
  go_upto_region 7 with (go_at_call 21; with_reducible refine L6.mono ?_; rintro e v6 ⟨rfl, X6⟩)
  have N6 := Bk.new v6 #[.int .i64 3, .int .i64 0, .int .i64 0, .string ⟨#[97]⟩] 33
  have X7 := X6.alloc' (.cells #[.int .i64 3, .int .i64 0, .int .i64 0, .string ⟨#[97]⟩] 33)
  clear L6 X5 C6 X6
  generalize v6.alloc (.cells #[.int .i64 3, .int .i64 0, .int .i64 0, .string ⟨#[97]⟩] 33) = v7 at *
  have c3 := N6.cell 3
  simp only [List.getElem?_toArray, List.getElem?_cons_zero, List.getElem?_cons_succ] at c3
  have L7 := C7.out v7 b X7
  go_wp2_with fail
  go_at_call 23
  with_reducible refine L7.mono ?_
  rintro e v8 ⟨rfl, X8⟩
  have L8 := C8.out v8 b X8
  go_wp2_with (go_at_call 26; with_reducible refine L8.mono ?_; rintro e v9 ⟨rfl, X9⟩)
  go_ret
  exact ⟨rfl, X9.bl⟩
end Go.Proofs.Ytpmkpjnhdehnhaa

/-
  The walk of InboxRound. (Written by gen_iround.py.)
-/
import Derived.Test.YtpmkpjnhdehnhaaILives
import Derived.Test.YtpmkpjnhdehnhaaIPks
import Derived.Test.YtpmkpjnhdehnhaaIRst
namespace Go.Proofs.Ytpmkpjnhdehnhaa
open Go.RowKit

/-- An empty inbox behind i packets of the source 0. -/
def rdS (i : Nat) : IS := ⟨1, [], [], fun x => if x = 0 then ((i % 65536 : Nat) : Int) else 0⟩
def rdC (i : Nat) : IS := { rdS i with W := [pkj 0 (i % 65536)] }
def rdT (i : Nat) : IS := { rdS (i + 1) with L := [pkj 0 (i % 65536)] }
theorem rdS_zero : rdS 0 = newI 1 := by
  unfold rdS newI
  congr
  funext x
  split <;> rfl
theorem rd_come (i : Nat) : comeE (rdS i) (pkj 0 (i % 65536)) = 0 ∧ comeS (rdS i) (pkj 0 (i % 65536)) = rdC i := by
  have hr : inR (pkj 0 (i % 65536)) := ⟨by simp, by simp, by simp; omega, by simp; omega⟩
  unfold comeE comeS
  rw [if_pos hr, if_pos hr]
  exact ⟨rfl, rfl⟩
theorem rd_rdy (i : Nat) : rdy (rdC i) = some (pkj 0 (i % 65536)) := by
  show pick (fun x => if x = 0 then ((i % 65536 : Nat) : Int) else 0) [pkj 0 (i % 65536)] = _
  unfold pick pick
  rw [if_pos]
  rfl
theorem rd_tell (i : Nat) : tellB (rdC i) = true ∧ tellS (rdC i) = rdT i := by
  unfold tellB tellS
  rw [rd_rdy]
  refine ⟨rfl, ?_⟩
  rw [if_pos (show (rdC i).L.length < (rdC i).n from Nat.zero_lt_one)]
  show told (rdC i) (pkj 0 (i % 65536)) = rdT i
  unfold told rdC rdT rdS
  congr 1
  · show strike [pkj 0 (i % 65536)] (pkj 0 (i % 65536)) = []
    unfold strike
    simp
  · funext x
    unfold upd
    show (if x = 0 then (((i % 65536 : Nat) : Int) + 1) % 65536 else if x = 0 then ((i % 65536 : Nat) : Int) else 0) = if x = 0 then (((i + 1) % 65536 : Nat) : Int) else 0
    by_cases h : x = 0
    · rw [if_pos h, if_pos h]
      omega
    · rw [if_neg h, if_neg h, if_neg h]
theorem rd_recv (i : Nat) : recvV (rdT i) = pkj 0 (i % 65536) ∧ recvE (rdT i) = 0 ∧ recvS (rdT i) = rdS (i + 1) := ⟨rfl, if_neg (by simp [rdT]), rfl⟩

set_option maxRecDepth 100000 in
set_option maxHeartbeats 8000000 in
theorem round_law (more : Int) (w : World) : Calls Try.prog 6 #[.int .i64 more] w fun e w' => e = .returned (.bool true) ∧ Below w.heap.size w w' := by
  have LV := lives_any w
  obtain ⟨k1, k2⟩ := irst_eq more (m := 20) (by decide) (by decide)
  replace k2 : wrap64 ((IntKind.u64.wrap more).tmod 20) = ((irst more 20 : Nat) : Int) := k2
  generalize irst more 20 = m at *
  have CN : Hid (∀ v, Below w.heap.size w v → Calls Try.prog 11 #[.int .i64 1] v fun e v' => ∃ b, e = .returned (.pointer (some ⟨b, 0, none⟩)) ∧ Ix w v' b (rdS 0) NoB) := show _ from fun v hb => by
    refine (ix_new (w0 := w) (O := NoB) hb (fun _ h => h.elim) 1).mono ?_
    rintro e v' ⟨b, rfl, x, _⟩
    rw [show roomN 1 = 1 from rfl, ← rdS_zero] at x
    exact ⟨b, rfl, x⟩
  go_enter Try.func6, Try.ntmps6
  go_upto_region 4 with (go_at_call 10; with_reducible refine LV.mono ?_; rintro e v1 ⟨rfl, hb1⟩)
  have C1 := CN.out v1 hb1
  clear LV hb1 CN
  go_wp2_with (go_at_call 11; with_reducible refine C1.mono ?_; rintro e v2 ⟨b, rfl, X0⟩)
  go_loopw [4] (fun i wr => ∃ k : Nat, k ≤ 65536 + m ∧ i = .int .i64 k ∧ Ix w wr b (rdS k) NoB) (fun i _ => 65536 + m - (intOf i).toNat)
  case atStart => exact ⟨0, Nat.zero_le _, rfl, X0⟩
  case round =>
    clear X0 C1
    obtain ⟨k, hk, rfl, X⟩ := hrel
    by_cases hlt : k < 65536 + m
    · have hlt2 : (k : Int) < 65536 + (m : Int) := by omega
      have C := ix_come X (pkj 0 (k % 65536))
      rw [(rd_come k).1, (rd_come k).2] at C
      obtain ⟨q, hq⟩ : ∃ q : Nat, q = k % 65536 := ⟨_, rfl⟩
      have hq2 : (k : Int).tmod 65536 = (q : Int) := by rw [Int.tmod_eq_emod_of_nonneg (by omega), hq]; omega
      obtain ⟨r1, r2, r3⟩ := rd_recv k
      rw [← hq] at r1
      have CC : Calls Try.prog 17 #[.pointer (some ⟨b, 0, none⟩), .agg #[.int .i64 0, .int .i64 0, .int .i64 (q : Int), .string ⟨#[]⟩]] wr fun e w' => e = .returned (.int .i64 0) ∧ Ix w w' b (rdC k) NoB := by rw [hq]; exact C.mono fun _ _ h => ⟨h.1, h.2.1⟩
      have CT : Hid (∀ v, Ix w v b (rdC k) NoB → Calls Try.prog 19 #[.pointer (some ⟨b, 0, none⟩)] v fun e w' => e = .returned (.bool true) ∧ Ix w w' b (rdT k) NoB) := show _ from fun v hv => (ix_tell hv).mono fun _ _ h => ⟨by rw [h.1, (rd_tell k).1], by have := h.2.1; rwa [(rd_tell k).2] at this⟩
      have CR : Hid (∀ v, Ix w v b (rdT k) NoB → Calls Try.prog 21 #[.pointer (some ⟨b, 0, none⟩)] v fun e w' => e = .returned (.tuple #[.agg #[.int .i64 0, .int .i64 0, .int .i64 (q : Int), .string ⟨#[]⟩], .int .i64 0]) ∧ Ix w w' b (rdS (k + 1)) NoB) := show _ from fun v hv => (ix_recv hv).mono fun _ _ h => ⟨by rw [h.1, r1, r2]; rfl, by have := h.2.1; rwa [r3] at this⟩
      clear C X r1 r2 r3 hq
      go_wp2_with fail
      go_at_call 17
      with_reducible refine CC.mono ?_
      rintro e v3 ⟨rfl, X3⟩
      have CT1 := CT.out v3 X3
      clear CC CT X3
      go_upto_region 10 with (go_at_call 19; with_reducible refine CT1.mono ?_; rintro e v4 ⟨rfl, X4⟩)
      have CR1 := CR.out v4 X4
      clear CT1 CR X4
      go_upto_region 11 with (go_at_call 21; with_reducible refine CR1.mono ?_; rintro e v5 ⟨rfl, X5⟩)
      have X6 := X5.alloc' (.cells #[.int .i64 0, .int .i64 0, .int .i64 (q : Int), .string ⟨#[]⟩] 33)
      have N6 := Bk.new v5 #[.int .i64 0, .int .i64 0, .int .i64 (q : Int), .string ⟨#[]⟩] 33
      clear CR1 X5
      generalize v5.alloc (.cells #[.int .i64 0, .int .i64 0, .int .i64 (q : Int), .string ⟨#[]⟩] 33) = v6 at *
      generalize v5.heap.size = d at *
      have y2 := N6.cell 2
      simp only [List.getElem?_toArray, List.getElem?_cons_zero, List.getElem?_cons_succ] at y2
      have HX : Hid (Ix w v6 b (rdS (k + 1)) NoB) := X6
      clear X6 N6
      go_wp2_with fail
      go_roundw
      case rel => exact ⟨k + 1, by omega, by go_num, HX.out⟩
      case measure => simp [intOf]; omega
    · have hlt2 : ¬ ((k : Int) < 65536 + (m : Int)) := by omega
      have CX : Calls Try.prog 26 #[.pointer (some ⟨b, 0, none⟩), .int .i64 0] wr fun e w' => e = .returned (.int .i64 (m : Int)) ∧ Ix w w' b (rdS k) NoB := (ix_next X (s := 0) (by decide)).mono fun _ _ h => ⟨by rw [h.1]; show Ending.returned (.int .i64 (if (0 : Int) = 0 then ((k % 65536 : Nat) : Int) else 0)) = _; rw [if_pos rfl, show k % 65536 = m by omega], h.2.1⟩
      clear X hk hlt
      go_wp2_with (go_at_call 26; with_reducible refine CX.mono ?_; rintro e v3 ⟨rfl, X3⟩)
      go_ret
      exact ⟨rfl, X3.bl⟩
end Go.Proofs.Ytpmkpjnhdehnhaa

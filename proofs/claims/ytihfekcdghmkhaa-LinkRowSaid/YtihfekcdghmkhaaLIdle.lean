/-
  The program's link: is it idle?
-/
import Derived.Test.YtihfekcdghmkhaaLRead
namespace Go.Proofs.Ytihfekcdghmkhaa
open Go.RowKit
open RC (Cl cc cv zc)
theorem nil_idle (w : World) : Calls Try.prog 29 #[.pointer none] w fun e w' => e = .returned (.bool true) ∧ Below w.heap.size w w' := by
  go_enter Try.func29, Try.ntmps29
  go_wp2
  go_ret
  exact ⟨rfl, Below.refl _ _⟩
section
variable {w : World} {b : Nat} {S : LS} {F : Nat → Prop}
theorem all_first {l : List Int} (h : (l.all fun x => decide (x = 0)) = true) (k : Nat) : l.getD k 0 = 0 := by
  rw [List.all_eq_true] at h
  by_cases e : k < l.length
  · have := h (l.getD k 0) (by simp [List.getD_eq_getElem?_getD, List.getElem?_eq_getElem e])
    simpa using this
  · simp [List.getD_eq_getElem?_getD, List.getElem?_eq_none (Nat.le_of_not_lt e)]
theorem all_some {l : List Int} (h : (l.all fun x => decide (x = 0)) = false) : ∃ k, k < l.length ∧ ¬ l.getD k 0 = 0 := by
  rw [List.all_eq_false] at h
  obtain ⟨x, hx, h0⟩ := h
  obtain ⟨k, hk, rfl⟩ := List.mem_iff_getElem.1 hx
  exact ⟨k, hk, by simpa [List.getD_eq_getElem?_getD, List.getElem?_eq_getElem hk] using h0⟩
set_option maxHeartbeats 4000000 in
theorem link_idle (h : Lk w b S F) : Calls Try.prog 29 #[.pointer (some ⟨b, 0, none⟩)] w fun e w' => e = .returned (.bool (idleS S)) ∧ Below w.heap.size w w' := by
  have HO : Hid (Ok S) := h.ok
  have hn8 := h.ok.n8
  have hflen := h.ok.fl
  obtain ⟨ok, q, cap, cur, bi, pi, mi, si, bw, pw, mw, sw, hl, rfl⟩ := h
  have c2 := hl.blk.cell 2
  simp only [List.getElem?_toArray, List.getElem?_cons_zero, List.getElem?_cons_succ] at c2
  have HL : Hid (LkAt w b S q cap cur bi pi mi si bw pw mw sw) := hl
  have HC : Hid (∀ (wr : World) (k : Nat), Below w.heap.size w wr → k < S.n → wr.cell? ⟨q, k * 4, none⟩ = some (.int .i64 (S.cr.getD k 0)) ∧ wr.cell? ⟨q, k * 4 + 1, none⟩ = some (.int .i64 (fly S.ws (k : Int) : Int)) ∧ wr.cell? ⟨q, k * 4 + 2, none⟩ = some (.int .i64 (S.far.getD k 0)) ∧ wr.cell? ⟨q, k * 4 + 3, none⟩ = some (.int .i64 (com S.bk (k : Int) : Int))) := show _ from fun wr k hb hk => (HL.out.next hb).four hk
  have HE : Hid (∀ wr : World, Below w.heap.size w wr → (∀ j, j < S.n → S.far.getD j 0 = 0) → idleS S = ((S.ws.length : Int) == 0 && (S.bk.length : Int) == 0)) := show _ from fun wr _ hz => by
    have hall : (S.far.all fun x => decide (x = 0)) = true := by
      rcases Bool.eq_false_or_eq_true (S.far.all fun x => decide (x = 0)) with e | e
      · exact e
      · obtain ⟨k, hk, h0⟩ := all_some e
        exact absurd (hz k (by omega)) h0
    unfold idleS
    rw [hall]
    cases S.ws <;> cases S.bk <;> simp <;> omega
  have HZ : Hid (∀ k, k < S.n → ¬ S.far.getD k 0 = 0 → idleS S = false) := show _ from fun k hk h0 => by
    unfold idleS
    rcases Bool.eq_false_or_eq_true (S.far.all fun x => decide (x = 0)) with e | e
    · exact absurd (all_first e k) h0
    · rw [e]; simp
  have HP : Hid (∀ k, k < S.n → 0 ≤ S.far.getD k 0) := show _ from fun k hk => (ok.sum k hk).2.1
  clear ok hl
  generalize idleS S = idl at *
  obtain ⟨n, hn⟩ : ∃ n, S.n = n := ⟨_, rfl⟩
  rw [hn] at hn8 c2 hflen HC HE HZ HP
  have HN : Hid (S.n = n) := hn
  clear hn
  go_enter Try.func29, Try.ntmps29
  go_wp2_with fail
  go_loopw [13] (fun x wr => ∃ k : Nat, k ≤ n ∧ x = .int .i64 k ∧ Below w.heap.size w wr ∧ ∀ j, j < k → S.far.getD j 0 = 0) (fun x _ => n - (RowKit.intOf x).toNat)
  case atStart => exact ⟨0, Nat.zero_le _, rfl, Below.refl _ _, fun j hj => absurd hj (Nat.not_lt_zero _)⟩
  case round =>
    obtain ⟨k, hk, rfl, hb, hz⟩ := hrel
    have HB : Hid (Below w.heap.size w wr) := hb
    have HZ2 : Hid (∀ j, j < k → S.far.getD j 0 = 0) := hz
    clear hb hz c2
    by_cases hex : k < n
    case neg =>
      obtain rfl : k = n := by omega
      have e1 : ¬ (k : Int) < (k : Int) := by omega
      have L1 := HL.out.next HB.out
      have c0 := L1.blk.cell 0
      have c1 := L1.blk.cell 1
      simp only [List.getElem?_toArray, List.getElem?_cons_zero, List.getElem?_cons_succ] at c0 c1
      have HV := HE.out wr HB.out HZ2.out
      have C1 := RC.ring_len L1.two.rc
      have C2 := fun n => RI.ring_len (L1.two.ri.drewN n)
      rw [L1.wx] at C1
      simp only [L1.ix] at C2
      clear L1
      generalize ((S.ws.length : Nat) : Int) = x at *
      generalize ((S.bk.length : Nat) : Int) = y at *
      have HV2 : Hid (idl = (x == 0 && y == 0)) := HV
      clear HV
      rcases Bool.eq_false_or_eq_true (x == 0) with ex | ex
      · have ex2 : x = 0 := by simpa using ex
        subst ex2
        go_wp2_with (first
          | (go_at_call 45; with_reducible refine C1.mono ?_; rintro e w1 ⟨rfl, m1, rfl⟩)
          | (go_at_call 46; with_reducible refine (C2 _).mono ?_; rintro e w2 ⟨rfl, m2, rfl⟩))
        go_ret
        exact ⟨by rw [HV2.out]; rfl, dn HB.out _⟩
      · have ex2 : ¬ x = 0 := by simpa using ex
        go_wp2_with (first
          | (go_at_call 45; with_reducible refine C1.mono ?_; rintro e w1 ⟨rfl, m1, rfl⟩)
          | (go_at_call 46; with_reducible refine (C2 _).mono ?_; rintro e w2 ⟨rfl, m2, rfl⟩))
        go_ret
        exact ⟨by rw [HV2.out, ex]; rfl, dn HB.out _⟩
    have e1 : (k : Int) < (n : Int) := by omega
    have e0 : (0 : Int) ≤ (k : Int) := by omega
    obtain ⟨g0, g1, g2, g3⟩ := HC.out wr k HB.out hex
    have hz := HZ.out k hex
    have hp := HP.out k hex
    have HB2 : Hid (∀ o, Below w.heap.size w (wr.alloc o)) := fun o => HB.out.alloc HB.out.size _
    by_cases h0 : S.far.getD k 0 = 0
    · rw [h0] at g2
      have HZ3 : Hid (∀ j, j < k + 1 → S.far.getD j 0 = 0) := show _ from fun j hj => by
        by_cases e : j = k
        · rw [e]; exact h0
        · exact HZ2.out j (by omega)
      have e2 : IntKind.i64.wrap ((k : Int) + 1) = ((k + 1 : Nat) : Int) := by rw [IntWalk.i64_in _ (by omega)]; omega
      clear hz hp h0
      go_wp2
      go_roundw
      case rel => exact ⟨k + 1, by omega, by go_num, HB2.out _, HZ3.out⟩
      case measure => simp [RowKit.intOf]; omega
    · have hz2 : Hid (idl = false) := hz h0
      have hp2 : 0 < S.far.getD k 0 := by omega
      clear hz hp h0
      generalize S.far.getD k 0 = x at *
      go_wp2
      go_ret
      exact ⟨by rw [hz2.out]; rfl, HB2.out _⟩
end
end Go.Proofs.Ytihfekcdghmkhaa

/-
  The program's link: why a word wouldn't be sent; what is read of a lane.
-/
import Derived.Test.YtihfekcdghmkhaaLHas
namespace Go.Proofs.Ytihfekcdghmkhaa
open Go.RowKit
open RC (Cl cc cv zc)

/-- Why a word wouldn't be sent. -/
def refE (S : LS) (k : Int) : Int := if inL S k = true then if S.cr.getD k.toNat 0 = 0 then 8 else if S.r ≤ S.ws.length then 7 else 0 else 1
theorem refE_cases (S : LS) (k : Int) : (inL S k = false ∧ refE S k = 1) ∨ (∃ p : Nat, k = (p : Int) ∧ p < S.n ∧ inL S k = true ∧ ((S.cr.getD p 0 = 0 ∧ refE S k = 8) ∨ (¬ S.cr.getD p 0 = 0 ∧ S.r ≤ S.ws.length ∧ refE S k = 7) ∨ (¬ S.cr.getD p 0 = 0 ∧ ¬ S.r ≤ S.ws.length ∧ refE S k = 0))) := by
  unfold refE
  by_cases h : inL S k = true
  · obtain ⟨p, rfl, hp⟩ := inL_nat h
    refine Or.inr ⟨p, rfl, hp, h, ?_⟩
    rw [if_pos h, Int.toNat_natCast]
    by_cases h0 : S.cr.getD p 0 = 0
    · exact Or.inl ⟨h0, by rw [if_pos h0]⟩
    · rw [if_neg h0]
      by_cases h1 : S.r ≤ S.ws.length
      · exact Or.inr (Or.inl ⟨h0, h1, by rw [if_pos h1]⟩)
      · exact Or.inr (Or.inr ⟨h0, h1, by rw [if_neg h1]⟩)
  · exact Or.inl ⟨by simpa using h, by rw [if_neg h]⟩
theorem ref_nil (k : Int) (w : World) : Calls Try.prog 40 #[.pointer none, .int .i64 k] w fun e w' => e = .returned (.int .i64 1) ∧ ∃ n, w' = w.drewN n := by
  have HC := fun w => has_nil k w
  go_enter Try.func40, Try.ntmps40
  go_wp2_with (go_at_call 42; with_reducible refine (HC _).mono ?_; rintro e w1 ⟨rfl, rfl⟩)
  go_ret
  exact ⟨rfl, 0, rfl⟩
section
variable {w : World} {b : Nat} {S : LS} {F : Nat → Prop}
theorem lref_any (h : Lk w b S F) (k : Int) : Calls Try.prog 40 #[.pointer (some ⟨b, 0, none⟩), .int .i64 k] w fun e w' => e = .returned (.int .i64 (refE S k)) ∧ ∃ n, w' = w.drewN n := by
  have HC := lhas_any h k
  rcases refE_cases S k with ⟨e1, e2⟩ | ⟨p, rfl, hp, e1, e3⟩
  · rw [e2]
    rw [e1] at HC
    clear e1 e2 h
    go_enter Try.func40, Try.ntmps40
    go_wp2_with (go_at_call 42; with_reducible refine HC.mono ?_; rintro e w1 ⟨rfl, rfl⟩)
    go_ret
    exact ⟨rfl, 0, rfl⟩
  · rw [e1] at HC
    obtain ⟨ok, q, cap, cur, bi, pi, mi, si, bw, pw, mw, sw, hl, _⟩ := h
    have c0 := hl.blk.cell 0
    have c2 := hl.blk.cell 2
    obtain ⟨g0, -, -, -⟩ := hl.four hp
    simp only [List.getElem?_toArray, List.getElem?_cons_zero, List.getElem?_cons_succ] at c0 c2
    have RR := RC.ring_room hl.two.rc
    have hfree : sw.free = (S.r : Int) - (S.ws.length : Int) := by
      have h1 := ok.r1
      have h2 := ok.r64
      rw [RC.RingSt.free, hl.wr, hl.wl, hl.wx]
      simp [RC.one]
      omega
    rw [hfree] at RR
    have hwl := ok.wl
    have i0 : (0 : Int) ≤ (p : Int) := by omega
    have i1 : (p : Int) < (S.n : Int) := by omega
    rcases e3 with ⟨x0, x1⟩ | ⟨x0, x1, x2⟩ | ⟨x0, x1, x2⟩
    · rw [x1]
      rw [x0] at g0
      clear x0 x1 e1 ok hfree hl hwl hp
      generalize S.n = n at *
      go_enter Try.func40, Try.ntmps40
      go_wp2_with (go_at_call 42; with_reducible refine HC.mono ?_; rintro e w1 ⟨rfl, rfl⟩)
      go_ret
      exact ⟨rfl, 0, rfl⟩
    · rw [x2]
      rw [show (S.r : Int) - (S.ws.length : Int) = 0 by omega] at RR
      clear x1 x2 e1 ok hfree hl hwl hp
      generalize S.n = n at *
      generalize S.cr.getD p 0 = x at *
      go_enter Try.func40, Try.ntmps40
      go_wp2_with (first
        | (go_at_call 42; with_reducible refine HC.mono ?_; rintro e w1 ⟨rfl, rfl⟩)
        | (go_at_call 49; with_reducible refine RR.mono ?_; rintro e w1 ⟨rfl, m, rfl⟩))
      go_ret
      exact ⟨rfl, m, rfl⟩
    · rw [x2]
      obtain ⟨d, hd⟩ : ∃ d : Int, (S.r : Int) - (S.ws.length : Int) = d := ⟨_, rfl⟩
      have hd0 : ¬ d = 0 := by omega
      rw [hd] at RR
      clear x1 x2 e1 ok hfree hl hwl hp hd
      generalize S.n = n at *
      generalize S.cr.getD p 0 = x at *
      go_enter Try.func40, Try.ntmps40
      go_wp2_with (first
        | (go_at_call 42; with_reducible refine HC.mono ?_; rintro e w1 ⟨rfl, rfl⟩)
        | (go_at_call 49; with_reducible refine RR.mono ?_; rintro e w1 ⟨rfl, m, rfl⟩))
      go_ret
      exact ⟨rfl, m, rfl⟩

def mayS (S : LS) (k : Int) : Bool := inL S k && decide (0 < S.cr.getD k.toNat 0) && decide (S.ws.length < S.r)
def sumS (S : LS) (k : Int) : Int := hasN S.cr k + (fly S.ws k : Int) + hasN S.far k + (com S.bk k : Int)
def idleS (S : LS) : Bool := decide (S.ws = []) && decide (S.bk = []) && S.far.all fun x => decide (x = 0)
theorem may_ref {S : LS} (h : Ok S) (k : Int) : mayS S k = (refE S k == 0) := by
  unfold mayS
  rcases refE_cases S k with ⟨e1, e2⟩ | ⟨p, rfl, hp, e1, e3⟩
  · rw [e1, e2]; rfl
  · rw [e1, Int.toNat_natCast]
    have := (h.sum p hp).1
    rcases e3 with ⟨x0, x1⟩ | ⟨x0, x1, x2⟩ | ⟨x0, x1, x2⟩
    · rw [x0, x1]; rfl
    · rw [x2, decide_eq_false (show ¬ S.ws.length < S.r by omega)]; simp
    · rw [x2, decide_eq_true (show S.ws.length < S.r by omega), decide_eq_true (show 0 < S.cr.getD p 0 by omega)]; rfl
theorem fly_out {S : LS} (h : Ok S) {k : Int} (hk : ¬ inL S k = true) : fly S.ws k = 0 := by
  unfold fly
  rw [List.length_eq_zero_iff, List.filter_eq_nil_iff]
  intro c hc e
  simp only [decide_eq_true_eq] at e
  exact hk (by rw [← e]; exact h.wi c hc)
theorem com_out {S : LS} (h : Ok S) {k : Int} (hk : ¬ inL S k = true) : com S.bk k = 0 := by
  unfold com
  rw [List.length_eq_zero_iff, List.filter_eq_nil_iff]
  intro c hc e
  simp only [decide_eq_true_eq] at e
  exact hk (by rw [← e]; exact h.bi c hc)
theorem wh_eq {S : LS} (h : Ok S) (k : Int) : wh S k = f4 (hasN S.cr k) (fly S.ws k) (hasN S.far k) (com S.bk k) := by
  unfold wh hasN
  rw [h.cl, h.fl]
  by_cases e : inL S k = true
  · rw [if_pos e, if_pos (inL_iff.1 e), if_pos (inL_iff.1 e)]
  · rw [if_neg e, if_neg (fun c => e (inL_iff.2 c)), if_neg (fun c => e (inL_iff.2 c)), fly_out h e, com_out h e]
    rfl
theorem has_le {S : LS} (h : Ok S) (k : Int) : 0 ≤ hasN S.cr k ∧ 0 ≤ hasN S.far k ∧ hasN S.cr k + (fly S.ws k : Int) + hasN S.far k + (com S.bk k : Int) ≤ 64 := by
  have hd := h.d64
  by_cases e : inL S k = true
  · obtain ⟨p, rfl, hp⟩ := inL_nat e
    have := h.sum p hp
    unfold hasN
    rw [h.cl, h.fl, if_pos (inL_iff.1 e), if_pos (inL_iff.1 e), Int.toNat_natCast]
    omega
  · rw [fly_out h e, com_out h e]
    unfold hasN
    rw [h.cl, h.fl, if_neg (fun c => e (inL_iff.2 c)), if_neg (fun c => e (inL_iff.2 c))]
    omega
theorem lwhere_any (h : Lk w b S F) (k : Int) : Calls Try.prog 38 #[.pointer (some ⟨b, 0, none⟩), .int .i64 k] w fun e w' => e = .returned (.agg (f4 (hasN S.cr k) (fly S.ws k) (hasN S.far k) (com S.bk k))) ∧ Below w.heap.size w w' := by
  have := where_any h k
  rwa [wh_eq h.ok] at this
theorem link_credits (h : Lk w b S F) (k : Int) : Calls Try.prog 16 #[.pointer (some ⟨b, 0, none⟩), .int .i64 k] w fun e w' => e = .returned (.int .i64 (hasN S.cr k)) ∧ Below w.heap.size w w' := by
  have W := lwhere_any h k
  have FX : ∀ (a b c d : Int) (v : World), (Instr.field 70 (.agg #[.int .i64 a, .int .i64 b, .int .i64 c, .int .i64 d]) 0).run Try.prog v = .ok (.int .i64 a) v := fun _ _ _ _ _ => rfl
  simp only [f4] at W
  clear h
  go_enter Try.func16, Try.ntmps16
  go_wp2_with (go_at_call 38; with_reducible refine W.mono ?_; rintro e w1 ⟨rfl, hb⟩)
  go_ret
  exact ⟨rfl, hb⟩
theorem link_far (h : Lk w b S F) (k : Int) : Calls Try.prog 18 #[.pointer (some ⟨b, 0, none⟩), .int .i64 k] w fun e w' => e = .returned (.int .i64 (hasN S.far k)) ∧ Below w.heap.size w w' := by
  have W := lwhere_any h k
  have FX : ∀ (a b c d : Int) (v : World), (Instr.field 70 (.agg #[.int .i64 a, .int .i64 b, .int .i64 c, .int .i64 d]) 2).run Try.prog v = .ok (.int .i64 c) v := fun _ _ _ _ _ => rfl
  simp only [f4] at W
  clear h
  go_enter Try.func18, Try.ntmps18
  go_wp2_with (go_at_call 38; with_reducible refine W.mono ?_; rintro e w1 ⟨rfl, hb⟩)
  go_ret
  exact ⟨rfl, hb⟩
theorem link_flying (h : Lk w b S F) (k : Int) : Calls Try.prog 19 #[.pointer (some ⟨b, 0, none⟩), .int .i64 k] w fun e w' => e = .returned (.int .i64 (fly S.ws k : Int)) ∧ Below w.heap.size w w' := by
  have W := lwhere_any h k
  have FX : ∀ (a b c d : Int) (v : World), (Instr.field 70 (.agg #[.int .i64 a, .int .i64 b, .int .i64 c, .int .i64 d]) 1).run Try.prog v = .ok (.int .i64 b) v := fun _ _ _ _ _ => rfl
  simp only [f4] at W
  clear h
  go_enter Try.func19, Try.ntmps19
  go_wp2_with (go_at_call 38; with_reducible refine W.mono ?_; rintro e w1 ⟨rfl, hb⟩)
  go_ret
  exact ⟨rfl, hb⟩
theorem link_coming (h : Lk w b S F) (k : Int) : Calls Try.prog 21 #[.pointer (some ⟨b, 0, none⟩), .int .i64 k] w fun e w' => e = .returned (.int .i64 (com S.bk k : Int)) ∧ Below w.heap.size w w' := by
  have W := lwhere_any h k
  have FX : ∀ (a b c d : Int) (v : World), (Instr.field 70 (.agg #[.int .i64 a, .int .i64 b, .int .i64 c, .int .i64 d]) 3).run Try.prog v = .ok (.int .i64 d) v := fun _ _ _ _ _ => rfl
  simp only [f4] at W
  clear h
  go_enter Try.func21, Try.ntmps21
  go_wp2_with (go_at_call 38; with_reducible refine W.mono ?_; rintro e w1 ⟨rfl, hb⟩)
  go_ret
  exact ⟨rfl, hb⟩
theorem link_may (h : Lk w b S F) (k : Int) : Calls Try.prog 23 #[.pointer (some ⟨b, 0, none⟩), .int .i64 k] w fun e w' => e = .returned (.bool (mayS S k)) ∧ Below w.heap.size w w' := by
  have W := lref_any h k
  rw [may_ref h.ok]
  clear h
  generalize refE S k = x at *
  go_enter Try.func23, Try.ntmps23
  go_wp2_with (go_at_call 40; with_reducible refine W.mono ?_; rintro e w1 ⟨rfl, m, rfl⟩)
  go_ret
  exact ⟨rfl, dn (Below.refl _ _) m⟩
theorem nil_may (k : Int) (w : World) : Calls Try.prog 23 #[.pointer none, .int .i64 k] w fun e w' => e = .returned (.bool false) ∧ Below w.heap.size w w' := by
  have W := ref_nil k w
  go_enter Try.func23, Try.ntmps23
  go_wp2_with (go_at_call 40; with_reducible refine W.mono ?_; rintro e w1 ⟨rfl, m, rfl⟩)
  go_ret
  exact ⟨rfl, dn (Below.refl _ _) m⟩
theorem link_sum (h : Lk w b S F) (k : Int) : Calls Try.prog 25 #[.pointer (some ⟨b, 0, none⟩), .int .i64 k] w fun e w' => e = .returned (.int .i64 (sumS S k)) ∧ Below w.heap.size w w' := by
  have W := lwhere_any h k
  obtain ⟨u1, u2, u3⟩ := has_le h.ok k
  unfold sumS
  simp only [f4] at W
  clear h
  generalize hasN S.cr k = x0 at *
  generalize hasN S.far k = x2 at *
  have v1 : (0 : Int) ≤ (fly S.ws k : Int) := by omega
  have v3 : (0 : Int) ≤ (com S.bk k : Int) := by omega
  generalize ((fly S.ws k : Nat) : Int) = x1 at *
  generalize ((com S.bk k : Nat) : Int) = x3 at *
  have p1 : IntKind.i64.wrap (x0 + x1) = x0 + x1 := IntWalk.i64_in _ (by omega)
  have p2 : IntKind.i64.wrap (x0 + x1 + x2) = x0 + x1 + x2 := IntWalk.i64_in _ (by omega)
  have p3 : IntKind.i64.wrap (x0 + x1 + x2 + x3) = x0 + x1 + x2 + x3 := IntWalk.i64_in _ (by omega)
  go_enter Try.func25, Try.ntmps25
  go_wp2_with (go_at_call 38; with_reducible refine W.mono ?_; rintro e w1 ⟨rfl, hb⟩)
  go_ret
  exact ⟨rfl, hb.alloc (by exact hb.size) _⟩
theorem nil_sum (k : Int) (w : World) : Calls Try.prog 25 #[.pointer none, .int .i64 k] w fun e w' => e = .returned (.int .i64 0) ∧ Below w.heap.size w w' := by
  have W := where_nil k w
  simp only [f4] at W
  go_enter Try.func25, Try.ntmps25
  go_wp2_with (go_at_call 38; with_reducible refine W.mono ?_; rintro e w1 ⟨rfl, hb⟩)
  go_ret
  exact ⟨rfl, hb.alloc (by exact hb.size) _⟩
end
end Go.Proofs.Ytihfekcdghmkhaa

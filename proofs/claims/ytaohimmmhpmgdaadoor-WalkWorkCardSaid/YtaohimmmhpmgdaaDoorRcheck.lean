/-
  The walk of the document's Check, and of both Nodes and both Class.
-/
import Derived.Test.YtaohimmmhpmgdaaDoorCheck
namespace Go.Proofs.YtaohimmmhpmgdaaDoor
open Go.RowKit

theorem box_cells (w : World) (c : Cf) : (w.alloc (.cells (cfc c) 29)).cell? ⟨w.heap.size, 0, none⟩ = some (.int .i64 c.w) := (At.start w c).cell 0

def u2 (c : Cf) : Bool := outB 1 8 c.l
def u3 (c : Cf) : Bool := c.ca && decide (c.l < 2)
theorem t2_eq (c : Cf) : t2 c = (u2 c || u3 c) := by
  unfold t2 u2 u3 outB
  cases c.ca
  · simp
  · rw [Bool.eq_iff_iff]
    simp only [if_true, Bool.or_eq_true, decide_eq_true_eq, Bool.true_and]
    omega

set_option maxHeartbeats 1000000 in
theorem rcheck_any (c : Cf) (w : World) : Calls Tryd.prog 39 #[cfv c] w fun e w' => e = .returned (.int .i64 (chk c)) ∧ Below w.heap.size w w' := by
  have A0 : Hid (Below w.heap.size w (w.alloc (.cells (cfc c) 29))) := (At.start w c).below
  have K := rwithin_any
  have D : chk c = if (outB 1 64 c.w || outB 1 64 c.h) = true then 4 else if (outB 1 8 c.l || (c.ca && decide (c.l < 2)) || outB 1 64 c.d || outB 1 64 c.r || outB 1 64 c.i || outB 1 16 c.b) = true then 10 else 0 := by
    unfold chk
    rw [t2_eq]
    unfold t1 u2 u3 t3 t4
    generalize outB 1 8 c.l = a
    generalize (c.ca && decide (c.l < 2)) = b
    generalize outB 1 64 c.d = x
    generalize outB 1 64 c.r = y
    generalize outB 1 64 c.i = z
    generalize outB 1 16 c.b = u
    cases a <;> cases b <;> cases x <;> cases y <;> cases z <;> cases u <;> rfl
  rw [D]
  clear D
  have Kw := fun w => K c.w 1 64 w
  have Kh := fun w => K c.h 1 64 w
  have Kl := fun w => K c.l 1 8 w
  have Kd := fun w => K c.d 1 64 w
  have Kr := fun w => K c.r 1 64 w
  have Ki := fun w => K c.i 1 64 w
  have Kb := fun w => K c.b 1 16 w
  clear K
  generalize outB 1 64 c.w = Bw at *
  generalize outB 1 64 c.h = Bh at *
  generalize outB 1 8 c.l = Bl at *
  generalize outB 1 64 c.d = Bd at *
  generalize outB 1 64 c.r = Br at *
  generalize outB 1 64 c.i = Bi at *
  generalize outB 1 16 c.b = Bb at *
  obtain ⟨cw, ch, cl, cd, cr, ci, cb, we, ca⟩ := c
  simp only [cfv, cfc] at *
  obtain ⟨R, hR⟩ : ∃ R : Int, R = (if (Bw || Bh) = true then 4 else if (Bl || (ca && decide (cl < 2)) || Bd || Br || Bi || Bb) = true then 10 else 0) := ⟨_, rfl⟩
  rw [← hR]
  have HR : Hid (R = (if (Bw || Bh) = true then 4 else if (Bl || (ca && decide (cl < 2)) || Bd || Br || Bi || Bb) = true then 10 else 0)) := hR
  clear hR
  cases Bw with
  | true =>
    go_enter Tryd.func39, Tryd.ntmps39
    go_wp2_with (go_at_call 44; (with_reducible refine (Kw _).mono ?_); rintro e w' ⟨rfl, rfl⟩)
    go_ret
    exact ⟨ret_int (by have h := HR.out; simp at h; exact h.symm), A0.out⟩
  | false =>
    cases Bh with
    | true =>
      go_enter Tryd.func39, Tryd.ntmps39
      go_wp2_with fail
      go_at_call 44
      refine (Kw _).mono ?_
      rintro e w' ⟨rfl, rfl⟩
      go_wp2_with fail
      go_at_call 44
      refine (Kh _).mono ?_
      rintro e w' ⟨rfl, rfl⟩
      go_wp2
      go_ret
      exact ⟨ret_int (by have h := HR.out; simp at h; exact h.symm), A0.out⟩
    | false =>
      go_enter Tryd.func39, Tryd.ntmps39
      go_wp2_with fail
      go_at_call 44
      refine (Kw _).mono ?_
      rintro e w' ⟨rfl, rfl⟩
      go_wp2_with fail
      go_at_call 44
      refine (Kh _).mono ?_
      rintro e w' ⟨rfl, rfl⟩
      go_wp2_with fail
      go_at_call 44
      refine (Kl _).mono ?_
      rintro e w' ⟨rfl, rfl⟩
      cases Bl with
      | true =>
        go_wp2
        go_ret
        exact ⟨ret_int (by have h := HR.out; simp at h; exact h.symm), A0.out⟩
      | false =>
        cases ca with
        | true =>
          by_cases h2 : cl < 2
          · have hd : decide (cl < 2) = true := by simpa using h2
            go_wp2
            go_ret
            exact ⟨ret_int (by have h := HR.out; simp [hd] at h; exact h.symm), A0.out⟩
          · have hd : decide (cl < 2) = false := by simpa using h2
            go_wp2_with fail
            go_at_call 44
            refine (Kd _).mono ?_
            rintro e w' ⟨rfl, rfl⟩
            cases Bd with
            | true =>
              go_wp2
              go_ret
              exact ⟨ret_int (by have h := HR.out; simp [hd] at h; exact h.symm), A0.out⟩
            | false =>
              go_wp2_with fail
              go_at_call 44
              refine (Kr _).mono ?_
              rintro e w' ⟨rfl, rfl⟩
              cases Br with
              | true =>
                go_wp2
                go_ret
                exact ⟨ret_int (by have h := HR.out; simp [hd] at h; exact h.symm), A0.out⟩
              | false =>
                go_wp2_with fail
                go_at_call 44
                refine (Ki _).mono ?_
                rintro e w' ⟨rfl, rfl⟩
                cases Bi with
                | true =>
                  go_wp2
                  go_ret
                  exact ⟨ret_int (by have h := HR.out; simp [hd] at h; exact h.symm), A0.out⟩
                | false =>
                  go_wp2_with fail
                  go_at_call 44
                  refine (Kb _).mono ?_
                  rintro e w' ⟨rfl, rfl⟩
                  cases Bb with
                  | true =>
                    go_wp2
                    go_ret
                    exact ⟨ret_int (by have h := HR.out; simp [hd] at h; exact h.symm), A0.out⟩
                  | false =>
                    go_wp2
                    go_ret
                    exact ⟨ret_int (by have h := HR.out; simp [hd] at h; exact h.symm), A0.out⟩
        | false =>
          go_wp2_with fail
          go_at_call 44
          refine (Kd _).mono ?_
          rintro e w' ⟨rfl, rfl⟩
          cases Bd with
          | true =>
            go_wp2
            go_ret
            exact ⟨ret_int (by have h := HR.out; simp at h; exact h.symm), A0.out⟩
          | false =>
            go_wp2_with fail
            go_at_call 44
            refine (Kr _).mono ?_
            rintro e w' ⟨rfl, rfl⟩
            cases Br with
            | true =>
              go_wp2
              go_ret
              exact ⟨ret_int (by have h := HR.out; simp at h; exact h.symm), A0.out⟩
            | false =>
              go_wp2_with fail
              go_at_call 44
              refine (Ki _).mono ?_
              rintro e w' ⟨rfl, rfl⟩
              cases Bi with
              | true =>
                go_wp2
                go_ret
                exact ⟨ret_int (by have h := HR.out; simp at h; exact h.symm), A0.out⟩
              | false =>
                go_wp2_with fail
                go_at_call 44
                refine (Kb _).mono ?_
                rintro e w' ⟨rfl, rfl⟩
                cases Bb with
                | true =>
                  go_wp2
                  go_ret
                  exact ⟨ret_int (by have h := HR.out; simp at h; exact h.symm), A0.out⟩
                | false =>
                  go_wp2
                  go_ret
                  exact ⟨ret_int (by have h := HR.out; simp at h; exact h.symm), A0.out⟩
end Go.Proofs.YtaohimmmhpmgdaaDoor

/-
  The walk of WalkWork.
-/
import Derived.Test.YtaohimmmhpmgdaaDoorWLives
namespace Go.Proofs.YtaohimmmhpmgdaaDoor
open Go.RowKit

theorem smL_Few (l : List Int) : Few (smL l) := by
  obtain ⟨h1, h2⟩ := smL_few l
  exact ⟨by omega, fun k => by have := h2 k; omega⟩

set_option maxRecDepth 100000 in
set_option maxHeartbeats 1000000 in
theorem walkWork_any (l : List Int) (h b : Int) (s : Option Addr) (cap : Nat) (w : World) (hr : RdA w s (vi l)) (hS : Steps w) (hT : Tabs w) :
    Calls Tryd.prog 3 #[.slice s l.length cap, .int .i64 h, .int .i64 b] w fun e w' => e = .returned (.bool true) ∧ Below w.heap.size w w' := by
  have LV := lives_any w hS hT
  have K1 := fun v h => small9_any l s cap v h
  have HR : Hid (RdA w s (vi l)) := hr
  have FE := smL_Few l
  obtain ⟨H, hH⟩ : ∃ H, min h 10000 = H := ⟨_, rfl⟩
  have hH2 : H ≤ 10000 := by omega
  have K2 := fun v => words_any H b v (by omega)
  have K3 := fun v => rwords_any H b v (by omega)
  have K4 := fun a c v h => work_any (smL l) b a c v FE h
  have K5 := fun a c v h => rwork_any (smL l) b a c v FE h
  have hc : (10000 < h ∧ H = 10000) ∨ (¬ 10000 < h ∧ H = h) := by omega
  clear hS hT hr FE hH
  generalize l.length = n at *
  generalize smL l = S at *
  generalize wds H b = W at *
  generalize wrk S b = T at *
  rcases hc with ⟨c1, rfl⟩ | ⟨c1, rfl⟩
  all_goals
    clear hH2
    go_enter Tryd.func3, Tryd.ntmps3
    go_wp2_with fail
    go_at_call 8
    refine LV.mono ?_
    rintro e v1 ⟨rfl, hb⟩
    have B1 : Hid (Below w.heap.size w v1) := hb
    clear hb LV
    go_wp2_with fail
    go_at_call 9
    refine (K1 _ (HR.out.below B1.out)).mono ?_
    rintro e v2 hrow
    obtain ⟨a, cp, rfl, _, rd, _, hb⟩ := hrow.rd
    have B2 : Hid (Below w.heap.size w v2) := nxt B1.out hb
    have R2 : Hid (RdA v2 a (vi S)) := RdA.of rd
    clear hb K1 hrow rd B1
    go_wp2_with fail
    go_at_call 10
    refine (K2 _).mono ?_
    rintro e v3 ⟨rfl, rfl⟩
    go_wp2_with fail
    go_at_call 11
    refine (K3 _).mono ?_
    rintro e v3 ⟨rfl, rfl⟩
    go_wp2_with fail
    go_at_call 12
    refine (K4 _ _ _ R2.out).mono ?_
    rintro e v3 ⟨rfl, hd⟩
    have B3 : Hid (Below w.heap.size w v3) := nxt B2.out hd.below
    have R3 : Hid (RdA v3 a (vi S)) := R2.out.below hd.below
    clear hd K4 K2 K3 B2 R2
    go_wp2_with fail
    go_at_call 13
    refine (K5 _ _ _ R3.out).mono ?_
    rintro e v4 ⟨rfl, hd⟩
    have B4 : Hid (Below w.heap.size w v4) := nxt B3.out hd.below
    clear hd K5 B3 R3
    go_wp2
    go_ret
    exact ⟨rfl, B4.out⟩
end Go.Proofs.YtaohimmmhpmgdaaDoor

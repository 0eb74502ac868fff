/-
  The program's nic: Left, Sent; of its inbox: Waits, Tell, Recv, Next.
-/
import Derived.Test.YtoejpngdkcnnhaaGreatNcB
namespace Go.Proofs.YtoejpngdkcnnhaaGreat
open Go.RowKit

section
variable {w0 w : World} {b ib : Nat} {S : Nc} {cu : Value} {J : Nat → Value} {X : I.IS} {O : Nat → Prop}
theorem left_any (h : Nb w b ib S cu J) : Calls Tryz.prog 15 #[.pointer (some ⟨b, 0, none⟩)] w fun e w' => e = .returned (.int .i64 S.lf) ∧ w = w' := by
  have CL := look_any b w
  have c := h.hd.2.2.2.1
  clear h
  generalize S.lf = lf at *
  go_enter Tryz.func15, Tryz.ntmps15
  go_wp2_with (go_at_call 28; with_reducible refine CL.mono ?_; rintro e v ⟨rfl, rfl⟩)
  go_ret
  exact ⟨rfl, rfl⟩
theorem sent_any (h : Nb w b ib S cu J) : Calls Tryz.prog 21 #[.pointer (some ⟨b, 0, none⟩)] w fun e w' => e = .returned (.int .i64 S.st) ∧ w = w' := by
  have CL := look_any b w
  have c := h.hd.2.2.1
  clear h
  generalize S.st = lf at *
  go_enter Tryz.func21, Tryz.ntmps21
  go_wp2_with (go_at_call 28; with_reducible refine CL.mono ?_; rintro e v ⟨rfl, rfl⟩)
  go_ret
  exact ⟨rfl, rfl⟩
theorem waits_any (h : Nb w b ib S cu J) (hI : I.Ix w0 w ib X O) : Calls Tryz.prog 20 #[.pointer (some ⟨b, 0, none⟩)] w fun e w' => e = .returned (.int .i64 (X.W.length : Int)) ∧ I.Ix w0 w' ib X O ∧ I.Kp O w w' := by
  have CL := look_any b w
  have c := h.hd.1
  have CI := I.ix_waits hI
  clear h
  obtain ⟨R, hR⟩ : ∃ R : Int, (X.W.length : Int) = R := ⟨_, rfl⟩
  rw [hR] at CI ⊢
  clear hR
  go_enter Tryz.func20, Tryz.ntmps20
  go_wp2_with fail
  go_at_call 28
  with_reducible refine CL.mono ?_
  rintro e v ⟨rfl, rfl⟩
  go_wp2_with (go_at_call 40; with_reducible refine CI.mono ?_; rintro e v ⟨rfl, H, K⟩)
  go_ret
  exact ⟨rfl, H, K⟩
theorem tell_any (h : Nb w b ib S cu J) (hI : I.Ix w0 w ib X O) : Calls Tryz.prog 22 #[.pointer (some ⟨b, 0, none⟩)] w fun e w' => e = .returned (.bool (I.tellB X)) ∧ I.Ix w0 w' ib (I.tellS X) O ∧ I.Kp O w w' := by
  have CL := look_any b w
  have c := h.hd.1
  have CI := I.ix_tell hI
  clear h
  generalize I.tellB X = R at *
  go_enter Tryz.func22, Tryz.ntmps22
  go_wp2_with fail
  go_at_call 28
  with_reducible refine CL.mono ?_
  rintro e v ⟨rfl, rfl⟩
  go_wp2_with (go_at_call 41; with_reducible refine CI.mono ?_; rintro e v ⟨rfl, H, K⟩)
  go_ret
  exact ⟨rfl, H, K⟩
theorem Bk.ikp {w w' : World} {O : Nat → Prop} {k : Nat} {cs : Array Value} {t : TypeId} (h : Bk w k cs t) (hk : I.Kp O w w') (ho : O k) : Bk w' k cs t := by
  unfold Bk
  rw [hk.on k ho]
  exact h
theorem recv_any (h : Nb w b ib S cu J) (hI : I.Ix w0 w ib X O) : Calls Tryz.prog 24 #[.pointer (some ⟨b, 0, none⟩)] w fun e w' => e = .returned (.tuple #[I.pkv (I.recvV X), .int .i64 (I.recvE X)]) ∧ I.Ix w0 w' ib (I.recvS X) O ∧ I.Kp O w w' := by
  have CL := look_any b (w.alloc (.cells #[.int .i64 0, .int .i64 0, .int .i64 0, .string ⟨#[]⟩] 61))
  have c := (h.alloc (.cells #[.int .i64 0, .int .i64 0, .int .i64 0, .string ⟨#[]⟩] 61)).hd.1
  have CI := I.ix_recv (hI.alloc (.cells #[.int .i64 0, .int .i64 0, .int .i64 0, .string ⟨#[]⟩] 61))
  have hlt := h.lt
  have HO : Hid (∀ g, O g → g < w.heap.size) := hI.lt
  have H0 : Hid (w0.heap.size ≤ w.heap.size) := hI.size
  have BN : Hid (Bk (w.alloc (.cells #[.int .i64 0, .int .i64 0, .int .i64 0, .string ⟨#[]⟩] 61)) w.heap.size #[.int .i64 0, .int .i64 0, .int .i64 0, .string ⟨#[]⟩] 61) := Bk.new _ _ _
  clear h hI
  generalize I.recvV X = R at *
  generalize I.recvE X = E at *
  generalize I.recvS X = Y at *
  obtain ⟨r1, r2, r3, r4⟩ := R
  simp only [I.pkv, I.pkc] at *
  go_enter Tryz.func24, Tryz.ntmps24
  go_wp2_with fail
  go_at_call 28
  with_reducible refine CL.mono ?_
  rintro e v ⟨rfl, rfl⟩
  go_wp2_with fail
  go_at_call 42
  with_reducible refine CI.mono ?_
  rintro e v ⟨rfl, H, K⟩
  have B1 := BN.out.ikp K (Or.inr rfl)
  have Z : ∀ g, O g → v.heap[g]? = w.heap[g]? := fun g hg => (K.on g (Or.inl hg)).trans (Below.heap_alloc w _ g (HO.out g hg))
  have zs : w.heap.size ≤ v.heap.size := Nat.le_trans (by simp) K.size
  have ZH : Hid (∀ g, O g → v.heap[g]? = w.heap[g]?) := Z
  clear BN K CI CL c Z
  have b0 := B1.cell 0
  have b1 := B1.cell 1
  have b2 := B1.cell 2
  have b3 := B1.cell 3
  have f0 := B1.free 0
  have f1 := B1.free 1
  have f2 := B1.free 2
  have f3 := B1.free 3
  simp only [List.getElem?_toArray, List.getElem?_cons_zero, List.getElem?_cons_succ] at b0 b1 b2 b3
  obtain ⟨n, hn⟩ : ∃ n, w.heap.size = n := ⟨_, rfl⟩
  have HN : Hid (w.heap.size = n) := hn
  rw [hn] at B1 H b0 b1 b2 b3 f0 f1 f2 f3 ⊢
  clear hn
  have BB : Hid (Bk v n #[.int .i64 0, .int .i64 0, .int .i64 0, .string ⟨#[]⟩] 61) := B1
  have HH : Hid (I.Ix w0 v ib Y (fun g => O g ∨ g = n)) := H
  clear B1 H
  go_wp2
  have Y4 := fourp_at (x0 := .int .i64 r1) (x1 := .int .i64 r2) (x2 := .int .i64 r3) (x3 := .string r4) BB.out
  have y0 := Y4.cell 0
  have y1 := Y4.cell 1
  have y2 := Y4.cell 2
  have y3 := Y4.cell 3
  simp only [List.getElem?_toArray, List.getElem?_cons_zero, List.getElem?_cons_succ] at y0 y1 y2 y3
  have hn := HN.out
  have h0 : w0.heap.size ≤ n := by rw [← hn]; exact H0.out
  refine bodyPost_ret (v := .tuple #[.agg #[.int .i64 r1, .int .i64 r2, .int .i64 r3, .string r4], .int .i64 E]) (by simp [results, Tryz.results24, go_sem, y0, y1, y2, y3]; try rfl) rfl ⟨rfl, ((((HH.out.set (Or.inr rfl) h0).set (Or.inr rfl) h0).set (Or.inr rfl) h0).set (Or.inr rfl) h0).less fun _ c => Or.inl c, ⟨by simpa using zs, fun g hg => ?_⟩⟩
  have hne : g ≠ n := by have := HO.out g hg; omega
  rw [Below.heap_setCell _ ⟨n, _, none⟩ _ g hne, Below.heap_setCell _ ⟨n, _, none⟩ _ g hne, Below.heap_setCell _ ⟨n, _, none⟩ _ g hne, Below.heap_setCell _ ⟨n, _, none⟩ _ g hne]
  exact ZH.out g hg
end
end Go.Proofs.YtoejpngdkcnnhaaGreat

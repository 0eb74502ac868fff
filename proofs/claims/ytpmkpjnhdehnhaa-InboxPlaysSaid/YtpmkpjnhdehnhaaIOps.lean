/-
  A law's inbox since a world, beside the law's other blocks: its calls; one that comes too early.
-/
import Derived.Test.YtpmkpjnhdehnhaaITell
namespace Go.Proofs.Ytpmkpjnhdehnhaa
open Go.RowKit

/-- The law's other blocks are as they were. -/
structure Kp (O : Nat → Prop) (w w' : World) : Prop where
  size : w.heap.size ≤ w'.heap.size
  on : ∀ g, O g → w'.heap[g]? = w.heap[g]?
theorem Kp.refl (O : Nat → Prop) (w : World) : Kp O w w := ⟨Nat.le_refl _, fun _ _ => rfl⟩
theorem Kp.trans {O : Nat → Prop} {w v u : World} (h : Kp O w v) (k : Kp O v u) : Kp O w u := ⟨Nat.le_trans h.size k.size, fun g hg => (k.on g hg).trans (h.on g hg)⟩
theorem Bk.kp {O : Nat → Prop} {w w' : World} {k : Nat} {cs : Array Value} {t : TypeId} (h : Bk w k cs t) (hk : Kp O w w') (ho : O k) : Bk w' k cs t := by
  unfold Bk
  rw [hk.on k ho]
  exact h
theorem OwnK.kp {O : Nat → Prop} {e : TypeId} {k : Nat} {w w' : World} {B n : Nat} {v : Value} {cs : List Value} (h : OwnK e k w B v n cs) (hk : Kp O w w') (ho : ∀ q, v.ownBlock = some q → O q) : OwnK e k w' B v n cs := by
  refine ⟨h.1, ?_⟩
  rcases h.2 with hn | ⟨g, cap, cur, e1, hB, hh, r⟩
  · exact Or.inl hn
  · exact Or.inr ⟨g, cap, cur, e1, hB, by rw [hk.on g (ho g (by rw [e1]; rfl))]; exact hh, r⟩
/-- A law's inbox since w0. -/
structure Ix (w0 w : World) (b : Nat) (S : IS) (O : Nat → Prop) : Prop where
  ex : ∃ F, In w b S F ∧ ∀ g, F g → w0.heap.size ≤ g ∧ ¬ O g
  bl : Below w0.heap.size w0 w
  lt : ∀ g, O g → g < w.heap.size
section
variable {w0 w w' : World} {b : Nat} {S : IS} {O : Nat → Prop}
theorem Ix.ok (h : Ix w0 w b S O) : IOk S := by
  obtain ⟨F, hI, _⟩ := h.ex
  exact hI.ok
theorem Ix.size (h : Ix w0 w b S O) : w0.heap.size ≤ w.heap.size := h.bl.size
theorem Ix.step {F F' : Nat → Prop} {S' : IS} (hF : ∀ g, F g → w0.heap.size ≤ g ∧ ¬ O g) (hb : Below w0.heap.size w0 w) (hO : ∀ g, O g → g < w.heap.size) (h' : In w' b S' F') (hg : Gr F w w' F') : Ix w0 w' b S' O ∧ Kp O w w' := by
  refine ⟨⟨⟨F', h', fun g hgF => ?_⟩, hg.under hb (fun g hgF => (hF g hgF).1) hb.size, fun g ho => Nat.lt_of_lt_of_le (hO g ho) hg.size⟩, ⟨hg.size, fun g ho => hg.block g (hO g ho) fun c => (hF g c).2 ho⟩⟩
  rcases hg.news g hgF with c | c
  · exact hF g c
  · exact ⟨Nat.le_trans hb.size c, fun ho => by have := hO g ho; omega⟩
theorem Ix.next (h : Ix w0 w b S O) (hb : Below w.heap.size w w') : Ix w0 w' b S O ∧ Kp O w w' := by
  obtain ⟨⟨F, hI, hF⟩, bl, lt⟩ := h
  exact Ix.step hF bl lt (hI.next hb) (Gr.of hb)
theorem Ix.drew (h : Ix w0 w b S O) (n : Nat) : Ix w0 (w.drewN n) b S O := (h.next (dn (Below.refl _ _) n)).1
/-- Other blocks beside it; one of them, or a new one, has turned. -/
theorem Ix.grow {O' : Nat → Prop} {r : Option Nat} (h : Ix w0 w b S O) (hg : w.grownBy w' r) (hr : ∀ q, r = some q → O q ∧ w0.heap.size ≤ q) (hO : ∀ g, O' g → (O g ∨ w.heap.size ≤ g) ∧ g < w'.heap.size) : Ix w0 w' b S O' := by
  obtain ⟨⟨F, hI, hF⟩, bl, lt⟩ := h
  refine ⟨⟨F, hI.kept hg fun q hq c => (hF q c).2 (hr q hq).1, fun g hgF => ⟨(hF g hgF).1, fun ho => ?_⟩⟩, bl.grown hg bl.size (fun k e => (hr k e).2), fun g ho => (hO g ho).2⟩
  rcases (hO g ho).1 with c | c
  · exact (hF g hgF).2 c
  · have := hI.lt g hgF
    omega
/-- Fewer blocks to be kept, or others that are none of its. -/
theorem Ix.less {O' : Nat → Prop} (h : Ix w0 w b S O) (hO : ∀ g, O' g → O g) : Ix w0 w b S O' := by
  obtain ⟨⟨F, hI, hF⟩, bl, lt⟩ := h
  exact ⟨⟨F, hI, fun g hgF => ⟨(hF g hgF).1, fun ho => (hF g hgF).2 (hO g ho)⟩⟩, bl, fun g ho => lt g (hO g ho)⟩
theorem Ix.alloc (h : Ix w0 w b S O) (o : Obj) : Ix w0 (w.alloc o) b S fun g => O g ∨ g = w.heap.size := by
  have hg : w.grownBy (w.alloc o) none := ⟨rfl, rfl, rfl, by simp, fun i hi _ => Below.heap_alloc w o i hi⟩
  refine h.grow hg (fun _ e => by cases e) fun g hgO => ?_
  rcases hgO with c | rfl
  · exact ⟨Or.inl c, by have := h.lt g c; simp; omega⟩
  · exact ⟨Or.inr (Nat.le_refl _), by simp⟩
theorem Ix.alloc' (h : Ix w0 w b S O) (o : Obj) : Ix w0 (w.alloc o) b S O := (h.alloc o).less fun _ c => Or.inl c
theorem Ix.set {k j : Nat} {x : Value} (h : Ix w0 w b S O) (hk : O k) (h0 : w0.heap.size ≤ k) : Ix w0 (w.setCell ⟨k, j, none⟩ x) b S O :=
  h.grow (r := some k) ⟨rfl, rfl, rfl, by simp, fun i _ hne => Below.heap_setCell w ⟨k, j, none⟩ x i fun e => hne (by rw [e])⟩ (fun q e => by cases e; exact ⟨hk, h0⟩) (fun g hg => ⟨Or.inl hg, by have := h.lt g hg; simpa using this⟩)
theorem ix_come (h : Ix w0 w b S O) (p : Pk) : Calls Try.prog 17 #[.pointer (some ⟨b, 0, none⟩), pkv p] w fun e w' => e = .returned (.int .i64 (comeE S p)) ∧ Ix w0 w' b (comeS S p) O ∧ Kp O w w' := by
  obtain ⟨⟨F, hI, hF⟩, bl, lt⟩ := h
  refine (inbox_come hI p).mono ?_
  rintro e w' ⟨rfl, h2, h3⟩
  exact ⟨rfl, Ix.step hF bl lt h2 h3⟩
theorem ix_tell (h : Ix w0 w b S O)  : Calls Try.prog 19 #[.pointer (some ⟨b, 0, none⟩)] w fun e w' => e = .returned (.bool (tellB S)) ∧ Ix w0 w' b (tellS S) O ∧ Kp O w w' := by
  obtain ⟨⟨F, hI, hF⟩, bl, lt⟩ := h
  refine (inbox_tell hI ).mono ?_
  rintro e w' ⟨F', rfl, h2, h3⟩
  exact ⟨rfl, Ix.step hF bl lt h2 h3⟩
theorem ix_recv (h : Ix w0 w b S O)  : Calls Try.prog 21 #[.pointer (some ⟨b, 0, none⟩)] w fun e w' => e = .returned (.tuple #[pkv (recvV S), .int .i64 (recvE S)]) ∧ Ix w0 w' b (recvS S) O ∧ Kp O w w' := by
  obtain ⟨⟨F, hI, hF⟩, bl, lt⟩ := h
  refine (inbox_recv hI ).mono ?_
  rintro e w' ⟨F', rfl, h2, h3⟩
  exact ⟨rfl, Ix.step hF bl lt h2 h3⟩
theorem ix_peek (h : Ix w0 w b S O)  : Calls Try.prog 22 #[.pointer (some ⟨b, 0, none⟩)] w fun e w' => e = .returned (.tuple #[pkv (recvV S), .int .i64 (recvE S)]) ∧ Ix w0 w' b (S) O ∧ Kp O w w' := by
  obtain ⟨F, hI, _⟩ := h.ex
  refine (inbox_peek hI ).mono ?_
  rintro e w' ⟨rfl, h2⟩
  exact ⟨rfl, h.next h2⟩
theorem ix_len (h : Ix w0 w b S O)  : Calls Try.prog 23 #[.pointer (some ⟨b, 0, none⟩)] w fun e w' => e = .returned (.int .i64 (S.L.length : Int)) ∧ Ix w0 w' b (S) O ∧ Kp O w w' := by
  obtain ⟨F, hI, _⟩ := h.ex
  refine (inbox_len hI ).mono ?_
  rintro e w' ⟨rfl, h2⟩
  exact ⟨rfl, h.next h2⟩
theorem ix_room (h : Ix w0 w b S O)  : Calls Try.prog 24 #[.pointer (some ⟨b, 0, none⟩)] w fun e w' => e = .returned (.int .i64 ((S.n : Int) - (S.L.length : Int))) ∧ Ix w0 w' b (S) O ∧ Kp O w w' := by
  obtain ⟨F, hI, _⟩ := h.ex
  refine (inbox_room hI ).mono ?_
  rintro e w' ⟨rfl, h2⟩
  exact ⟨rfl, h.next h2⟩
theorem ix_waits (h : Ix w0 w b S O)  : Calls Try.prog 25 #[.pointer (some ⟨b, 0, none⟩)] w fun e w' => e = .returned (.int .i64 (S.W.length : Int)) ∧ Ix w0 w' b (S) O ∧ Kp O w w' := by
  obtain ⟨F, hI, _⟩ := h.ex
  refine (inbox_waits hI ).mono ?_
  rintro e w' ⟨rfl, h2⟩
  exact ⟨rfl, h.next h2⟩
theorem ix_next (h : Ix w0 w b S O) {s : Int} (hs : (Lit.int .i64 s).wf = true) : Calls Try.prog 26 #[.pointer (some ⟨b, 0, none⟩), .int .i64 s] w fun e w' => e = .returned (.int .i64 (S.nx s)) ∧ Ix w0 w' b (S) O ∧ Kp O w w' := by
  obtain ⟨F, hI, _⟩ := h.ex
  refine (inbox_next hI hs).mono ?_
  rintro e w' ⟨rfl, h2⟩
  exact ⟨rfl, h.next h2⟩
theorem ix_ready (h : Ix w0 w b S O)  : Calls Try.prog 27 #[.pointer (some ⟨b, 0, none⟩)] w fun e w' => e = .returned (.bool (rdy S).isSome) ∧ Ix w0 w' b (S) O ∧ Kp O w w' := by
  obtain ⟨F, hI, _⟩ := h.ex
  refine (inbox_ready hI ).mono ?_
  rintro e w' ⟨rfl, h2⟩
  exact ⟨rfl, h.next h2⟩
end
theorem ix_new {w0 w : World} {O : Nat → Prop} (hb : Below w0.heap.size w0 w) (lt : ∀ g, O g → g < w.heap.size) (room : Int) : Calls Try.prog 11 #[.int .i64 room] w fun e w' => ∃ b, e = .returned (.pointer (some ⟨b, 0, none⟩)) ∧ Ix w0 w' b (newI (roomN room)) O ∧ Kp O w w' := by
  refine (inbox_new room w).mono ?_
  rintro e w' ⟨b, F, rfl, h2, h3, h4⟩
  have hs := hb.size
  exact ⟨b, rfl, ⟨⟨F, h2, fun g hg => ⟨Nat.le_trans hs (h4 g hg), fun ho => by have := lt g ho; have := h4 g hg; omega⟩⟩, hb.trans (h3.mono hs), fun g ho => Nat.lt_of_lt_of_le (lt g ho) h3.size⟩, ⟨h3.size, fun g ho => h3.block g (lt g ho)⟩⟩
end Go.Proofs.Ytpmkpjnhdehnhaa

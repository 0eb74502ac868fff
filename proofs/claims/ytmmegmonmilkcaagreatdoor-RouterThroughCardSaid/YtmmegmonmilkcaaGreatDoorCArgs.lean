/-
  What a parcel and a row of words among a law's arguments read as.
-/
import Derived.Test.YtmmegmonmilkcaaGreatDoorFArgs
import Derived.Test.YtmmegmonmilkcaaGreatDoorGoodR
import Derived.Deep.SlicePairs
namespace Go.Proofs.YtmmegmonmilkcaaGreatDoor
open Go.ChangeShapes Go.WideShapes Go.ChangeAt Go.RowKit Go.Joins Go.Deep

section
variable {H : Type} {enc : TypeId × Value → H} {w : World} {base : Nat} {spare : Nat → Bool} {held : Bool}

theorem lt_of_cell {a : Addr} {v : Value} (h : w.cell? a = some v) : a.block < w.heap.size := by
  rcases Nat.lt_or_ge a.block w.heap.size with c | c
  · exact c
  · simp [World.cell?, Array.getElem?_eq_none c] at h
/-- Heads that came in. -/
theorem tos_of_trod {n : Nat} {v : Value} {y : DataW H × List MemPlace} (h : DataW.trod enc Tryz.prog w base spare held n 37 [v] = some y) :
    ∃ (a : Option Addr) (l : List (Int × Int)) (cap : Nat), v = .slice a l.length cap ∧ l.length ≤ cap ∧ cap ≤ maxLen ∧ Rd w a (pc l) := by
  rcases open_slice_pairs Tryz.underlying37 Tryz.underlying76 (by kernel_rfl) rfl rfl (by kernel_rfl) (by kernel_rfl) h with ⟨hcs, _⟩ | ⟨ad, len, cap, m, n', V0, V1, D0, D1, P0, P1, hcs, _, hl, hm, hmm, _, hi⟩
  · simp at hcs
    exact ⟨none, [], 0, by rw [hcs]; rfl, Nat.le_refl _, by simp [maxLen], fun j v hj => by simp [pc] at hj⟩
  · simp at hcs
    have hlm : len ≤ m := by rw [hmm]; split <;> omega
    have key : ∀ i, i < len → ∃ q : Int × Int, w.cell? (ad.add (i * 2)) = some (.int .i64 q.1) ∧ w.cell? (ad.add (i * 2 + 1)) = some (.int .i64 q.2) := by
      intro i hil
      obtain ⟨h0, h1, t0, t1⟩ := hi i (by omega)
      replace t0 : DataW.trod enc Tryz.prog w base spare held n' 3 [V0 i] = _ := t0
      replace t1 : DataW.trod enc Tryz.prog w base spare held n' 3 [V1 i] = _ := t1
      obtain ⟨p, e0, _, _⟩ := DataW.trod_int Tryz.underlying3 t0
      obtain ⟨q, e1, _, _⟩ := DataW.trod_int Tryz.underlying3 t1
      simp at e0 e1
      exact ⟨(p, q), by rw [h0, e0], by rw [h1, e1]⟩
    obtain ⟨X, hX⟩ := choose_lt key
    obtain ⟨g, off, spot⟩ := ad
    have hsp : 0 < len → spot = none := fun h0 => by
      have := World.cell?_spot (hX 0 h0).1
      simpa [Addr.add] using this
    refine ⟨some ⟨g, off, spot⟩, (List.range len).map X, cap, by rw [hcs]; simp, by simpa using hl, hm, fun j v hj => ?_⟩
    have hjl := (List.getElem?_eq_some_iff.mp hj).1
    rw [pc_len, List.length_map, List.length_range] at hjl
    have hl2 : j / 2 < len := by omega
    obtain rfl := hsp (by omega)
    obtain ⟨x0, x1⟩ := hX (j / 2) hl2
    have hp := pc_at ((List.range len).map X) (j / 2) (by rw [List.length_map, List.length_range]; exact hl2)
    have hg : ((List.range len).map X).getD (j / 2) (0, 0) = X (j / 2) := by simp [hl2]
    rw [hg] at hp
    rw [WideShapes.add_plain] at x0 x1
    rcases (by omega : j = j / 2 * 2 ∨ j = j / 2 * 2 + 1) with e | e
    · rw [e, hp.1] at hj
      refine ⟨g, off, rfl, lt_of_cell (a := ⟨g, _, none⟩) x0, ?_⟩
      rw [e, x0]
      exact hj
    · rw [e, hp.2] at hj
      refine ⟨g, off, rfl, lt_of_cell (a := ⟨g, _, none⟩) x0, ?_⟩
      rw [e, x1]
      exact hj

theorem words_of_trod {n : Nat} {v : Value} {y : DataW H × List MemPlace} (h : DataW.trod enc Tryz.prog w base spare held n 77 [v] = some y) :
    ∃ (a : Option Addr) (l : List Nat) (cap : Nat), v = .slice a l.length cap ∧ l.length ≤ cap ∧ cap ≤ maxLen ∧ Rd w a (vw l) ∧ ∀ x ∈ l, x < 18446744073709551616 := by
  obtain ⟨a, l, cap, h1, h2, h3, h4, h5⟩ := nums_of_trod Tryz.underlying77 Tryz.underlying47 (by kernel_rfl) h
  refine ⟨a, l.map Int.toNat, cap, by rw [h1, List.length_map], by rw [List.length_map]; exact h2, h3, ?_, ?_⟩
  · have : vw (l.map Int.toNat) = l.map fun n => .int .u64 n := by
      unfold vw
      rw [List.map_map]
      apply List.map_congr_left
      intro n hn
      have := wf_u64 (h5 n hn)
      show Value.int .u64 ((n.toNat : Nat) : Int) = _
      rw [Int.toNat_of_nonneg this.1]
    rw [this]; exact h4
  · intro v hv
    obtain ⟨n, hn, rfl⟩ := List.mem_map.mp hv
    have := wf_u64 (h5 n hn)
    omega

set_option maxRecDepth 100000 in
theorem open_parcel {r : Reach} {b0 : Nat} {v : Value} {d : DataW H} {p : List MemPlace} (hv : Value.okWide Tryz.prog w r b0 39 v) (h : DataW.Trod enc Tryz.prog w base spare held 39 v d p) :
    ∃ (s : Int) (c : Bool) (a : Option Addr) (l : List (Int × Int)) (cap : Nat) (x : ByteArray), v = pcv s c (.slice a l.length cap) x ∧ l.length ≤ maxLen ∧ x.size ≤ maxLen ∧ Rd w a (pc l) := by
  have hs := Tryz.underlying39
  have hC : Tryz.prog.cellsOf 39 = 4 := by kernel_rfl
  obtain ⟨cs, rfl, hsz⟩ := okWide_struct hs hv
  obtain ⟨l⟩ := cs
  match l, hsz.trans hC with
  | [c0, c1, c2, c3], _ =>
    obtain ⟨fuel, hf⟩ := h
    obtain ⟨xs, n, _, _, _, hlen, hg⟩ := DataW.trod_struct hs hf
    have i3 : Tryz.prog.cellsOf 3 = 1 := by kernel_rfl
    have i4 : Tryz.prog.cellsOf 4 = 1 := by kernel_rfl
    have i5 : Tryz.prog.cellsOf 37 = 1 := by kernel_rfl
    have i9 : Tryz.prog.cellsOf 9 = 1 := by kernel_rfl
    match xs, hlen with
    | [y0, y1, y2, y3], _ =>
      have g0 := hg 0 _ rfl
      have g1 := hg 1 _ rfl
      have g2 := hg 2 _ rfl
      have g3 := hg 3 _ rfl
      simp [Value.cells, i3, i4, i5, i9] at g0 g1 g2 g3
      obtain ⟨a0, e0, _, _⟩ := DataW.trod_int Tryz.underlying3 g0
      obtain ⟨a1, e1, _⟩ := DataW.trod_bool Tryz.underlying4 g1
      obtain ⟨a2, l2, cap2, e2, q1, q2, q3⟩ := tos_of_trod g2
      obtain ⟨a3, e3, _, hm⟩ := DataW.trod_string Tryz.underlying9 g3
      simp at e0 e1 e3
      subst e0 e1 e2 e3
      exact ⟨a0, a1, a2, l2, cap2, a3, rfl, Nat.le_trans q1 q2, hm, q3⟩
end
end Go.Proofs.YtmmegmonmilkcaaGreatDoor

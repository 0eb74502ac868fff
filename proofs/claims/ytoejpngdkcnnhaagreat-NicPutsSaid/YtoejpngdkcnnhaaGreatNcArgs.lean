/-
  What a config, a parcel, a row of parcels among a law's arguments read as.
-/
import Derived.Test.YtoejpngdkcnnhaaGreatJn
import Derived.Test.YtoejpngdkcnnhaaGreatCfgs
import Derived.Test.YtoejpngdkcnnhaaGreatRows
import Derived.ProofKit
import Derived.OpenShut
import Derived.Lib.SmallJoins
import Derived.Deep.Slices
import Derived.Deep.SlicePairs
import Derived.ChangeOld
import Derived.ChangeMaps5
namespace Go.Proofs.YtoejpngdkcnnhaaGreat
open Go.ChangeShapes Go.WideShapes Go.ChangeAt Go.RowKit Go.Joins Go.Deep

theorem Tryz.own : ownKnob Tryz.prog.godebug = none := by kernel_rfl
theorem Tryz.laidOut : laidOutB Tryz.prog = true := by kernel_rfl

section
variable {H : Type} {enc : TypeId × Value → H} {w : World} {base : Nat} {spare : Nat → Bool} {held : Bool}

theorem lt_of_cell {a : Addr} {v : Value} (h : w.cell? a = some v) : a.block < w.heap.size := by
  rcases Nat.lt_or_ge a.block w.heap.size with c | c
  · exact c
  · simp [World.cell?, Array.getElem?_eq_none c] at h
/-- Heads that came in. -/
theorem tos_of_trod {n : Nat} {v : Value} {y : DataW H × List MemPlace} (h : DataW.trod enc Tryz.prog w base spare held n 32 [v] = some y) :
    ∃ (a : Option Addr) (l : List (Int × Int)) (cap : Nat), v = .slice a l.length cap ∧ l.length ≤ cap ∧ cap ≤ maxLen ∧ Rd w a (pc l) := by
  rcases open_slice_pairs Tryz.underlying32 Tryz.underlying37 (by kernel_rfl) rfl rfl (by kernel_rfl) (by kernel_rfl) h with ⟨hcs, _⟩ | ⟨ad, len, cap, m, n', V0, V1, D0, D1, P0, P1, hcs, _, hl, hm, hmm, _, hi⟩
  · simp at hcs
    exact ⟨none, [], 0, by rw [hcs]; rfl, Nat.le_refl _, by simp [maxLen], fun j v hj => by simp [pc] at hj⟩
  · simp at hcs
    have hlm : len ≤ m := by rw [hmm]; split <;> omega
    have key : ∀ i, i < len → ∃ q : Int × Int, w.cell? (ad.add (i * 2)) = some (.int .i64 q.1) ∧ w.cell? (ad.add (i * 2 + 1)) = some (.int .i64 q.2) := by
      intro i hil
      obtain ⟨h0, h1, t0, t1⟩ := hi i (by omega)
      replace t0 : DataW.trod enc Tryz.prog w base spare held n' 3 [V0 i] = _ := t0
      replace t1 : DataW.trod enc Tryz.prog w base spare held n' 3 [V1 i] = _ := t1
      obtain ⟨p, e0, _, _⟩ := DataW.trod_int Tryz.underlying3 t0
      obtain ⟨q, e1, _, _⟩ := DataW.trod_int Tryz.underlying3 t1
      simp at e0 e1
      exact ⟨(p, q), by rw [h0, e0], by rw [h1, e1]⟩
    obtain ⟨X, hX⟩ := choose_lt key
    obtain ⟨g, off, spot⟩ := ad
    have hsp : 0 < len → spot = none := fun h0 => by
      have := World.cell?_spot (hX 0 h0).1
      simpa [Addr.add] using this
    refine ⟨some ⟨g, off, spot⟩, (List.range len).map X, cap, by rw [hcs]; simp, by simpa using hl, hm, fun j v hj => ?_⟩
    have hjl := (List.getElem?_eq_some_iff.mp hj).1
    rw [pc_len, List.length_map, List.length_range] at hjl
    have hl2 : j / 2 < len := by omega
    obtain rfl := hsp (by omega)
    obtain ⟨x0, x1⟩ := hX (j / 2) hl2
    have hp := pc_at ((List.range len).map X) (j / 2) (by rw [List.length_map, List.length_range]; exact hl2)
    have hg : ((List.range len).map X).getD (j / 2) (0, 0) = X (j / 2) := by simp [hl2]
    rw [hg] at hp
    rw [WideShapes.add_plain] at x0 x1
    rcases (by omega : j = j / 2 * 2 ∨ j = j / 2 * 2 + 1) with e | e
    · rw [e, hp.1] at hj
      refine ⟨g, off, rfl, lt_of_cell (a := ⟨g, _, none⟩) x0, ?_⟩
      rw [e, x0]
      exact hj
    · rw [e, hp.2] at hj
      refine ⟨g, off, rfl, lt_of_cell (a := ⟨g, _, none⟩) x0, ?_⟩
      rw [e, x1]
      exact hj
set_option maxRecDepth 100000 in
theorem open_parcel {r : Reach} {b0 : Nat} {v : Value} {d : DataW H} {p : List MemPlace} (hv : Value.okWide Tryz.prog w r b0 34 v) (h : DataW.Trod enc Tryz.prog w base spare held 34 v d p) :
    ∃ (s : Int) (c : Bool) (a : Option Addr) (l : List (Int × Int)) (cap : Nat) (x : ByteArray), v = pcv s c (.slice a l.length cap) x ∧ l.length ≤ maxLen ∧ x.size ≤ maxLen ∧ Rd w a (pc l) := by
  have hs := Tryz.underlying34
  have hC : Tryz.prog.cellsOf 34 = 4 := by kernel_rfl
  obtain ⟨cs, rfl, hsz⟩ := okWide_struct hs hv
  obtain ⟨l⟩ := cs
  match l, hsz.trans hC with
  | [c0, c1, c2, c3], _ =>
    obtain ⟨fuel, hf⟩ := h
    obtain ⟨xs, n, _, _, _, hlen, hg⟩ := DataW.trod_struct hs hf
    have i3 : Tryz.prog.cellsOf 3 = 1 := by kernel_rfl
    have i4 : Tryz.prog.cellsOf 4 = 1 := by kernel_rfl
    have i5 : Tryz.prog.cellsOf 32 = 1 := by kernel_rfl
    have i9 : Tryz.prog.cellsOf 9 = 1 := by kernel_rfl
    match xs, hlen with
    | [y0, y1, y2, y3], _ =>
      have g0 := hg 0 _ rfl
      have g1 := hg 1 _ rfl
      have g2 := hg 2 _ rfl
      have g3 := hg 3 _ rfl
      simp [Value.cells, i3, i4, i5, i9] at g0 g1 g2 g3
      obtain ⟨a0, e0, _, _⟩ := DataW.trod_int Tryz.underlying3 g0
      obtain ⟨a1, e1, _⟩ := DataW.trod_bool Tryz.underlying4 g1
      obtain ⟨a2, l2, cap2, e2, q1, q2, q3⟩ := tos_of_trod g2
      obtain ⟨a3, e3, _, hm⟩ := DataW.trod_string Tryz.underlying9 g3
      simp at e0 e1 e3
      subst e0 e1 e2 e3
      exact ⟨a0, a1, a2, l2, cap2, a3, rfl, Nat.le_trans q1 q2, hm, q3⟩
set_option maxRecDepth 100000 in
theorem parcels_of_trod {n : Nat} {v : Value} {y : DataW H × List MemPlace} (h : DataW.trod enc Tryz.prog w base spare held n 24 [v] = some y) :
    ∃ (a : Option Addr) (l : List Pc) (cap : Nat), v = .slice a l.length cap ∧ l.length ≤ cap ∧ cap ≤ maxLen ∧ PsRd w a l := by
  have hC : Tryz.prog.cellsOf 34 = 4 := by kernel_rfl
  rcases open_slice Tryz.underlying24 h with ⟨hcs, _⟩ | ⟨ad, len, cap, m, n', D, Pl, hcs, _, hl, hm, hmm, _, hi⟩
  · simp at hcs
    exact ⟨none, [], 0, by rw [hcs]; rfl, Nat.le_refl _, by simp [maxLen], fun j v hj => by simp at hj⟩
  · simp at hcs
    have hlm : len ≤ m := by rw [hmm]; split <;> omega
    have key : ∀ i, i < len → ∃ q : Pc, w.cell? (ad.add (i * 4)) = some (.int .i64 q.s) ∧ w.cell? (ad.add (i * 4 + 1)) = some (.bool q.c) ∧ w.cell? (ad.add (i * 4 + 3)) = some (.string q.x) ∧
        ∃ a' cap', w.cell? (ad.add (i * 4 + 2)) = some (.slice a' q.hs.length cap') ∧ q.hs.length ≤ maxLen ∧ q.x.size ≤ maxLen ∧ Rd w a' (pc q.hs) := by
      intro i hil
      obtain ⟨cs', h1, h2⟩ := hi i (by omega)
      rw [hC] at h1
      obtain ⟨_, hlen, hcell⟩ := World.cells?_some h1
      obtain ⟨xs, k, _, _, _, hxl, hf⟩ := DataW.trod_struct Tryz.underlying34 h2
      have i3 : Tryz.prog.cellsOf 3 = 1 := by kernel_rfl
      have i4 : Tryz.prog.cellsOf 4 = 1 := by kernel_rfl
      have i5 : Tryz.prog.cellsOf 32 = 1 := by kernel_rfl
      have i9 : Tryz.prog.cellsOf 9 = 1 := by kernel_rfl
      match xs, hxl, cs', hlen with
      | [y0, y1, y2, y3], _, [v0, v1, v2, v3], _ =>
        have g0 := hf 0 _ rfl
        have g1 := hf 1 _ rfl
        have g2 := hf 2 _ rfl
        have g3 := hf 3 _ rfl
        simp [i3, i4, i5, i9] at g0 g1 g2 g3
        have e0 := hcell 0 (by omega)
        have e1 := hcell 1 (by omega)
        have e2 := hcell 2 (by omega)
        have e3 := hcell 3 (by omega)
        rw [add_add] at e0 e1 e2 e3
        simp only [List.getElem?_cons_zero, List.getElem?_cons_succ, Nat.add_zero] at e0 e1 e2 e3
        obtain ⟨a0, f0, _, _⟩ := DataW.trod_int Tryz.underlying3 g0
        obtain ⟨a1, f1, _⟩ := DataW.trod_bool Tryz.underlying4 g1
        obtain ⟨a2, l2, cap2, f2, q1, q2, q3⟩ := tos_of_trod g2
        obtain ⟨a3, f3, _, hmx⟩ := DataW.trod_string Tryz.underlying9 g3
        simp at f0 f1 f3
        subst f0 f1 f2 f3
        exact ⟨⟨a0, a1, l2, a3⟩, e0, e1, e3, a2, cap2, e2, Nat.le_trans q1 q2, hmx, q3⟩
    haveI : Inhabited Pc := ⟨⟨0, false, [], ByteArray.empty⟩⟩
    obtain ⟨X, hX⟩ := choose_lt key
    obtain ⟨g, off, spot⟩ := ad
    refine ⟨some ⟨g, off, spot⟩, (List.range len).map X, cap, by rw [hcs]; simp, by simpa using hl, hm, fun j p hj => ?_⟩
    have hjl := (List.getElem?_eq_some_iff.mp hj).1
    rw [List.length_map, List.length_range] at hjl
    obtain ⟨x0, x1, x3, a', cap', x2, q1, q2, q3⟩ := hX j hjl
    have hsp : spot = none := by
      have := World.cell?_spot (hX 0 (by omega)).1
      simpa [Addr.add] using this
    subst hsp
    obtain rfl : X j = p := by simpa [hjl] using hj
    rw [WideShapes.add_plain] at x0 x1 x2 x3
    exact ⟨g, off, rfl, lt_of_cell (a := ⟨g, _, none⟩) x0, x0, x1, x3, a', cap', x2, q1, q2, q3⟩
set_option maxRecDepth 100000 in
theorem open_cf {r : Reach} {b0 : Nat} {v : Value} {d : DataW H} {p : List MemPlace} (hv : Value.okWide Tryz.prog w r b0 23 v) (h : DataW.Trod enc Tryz.prog w base spare held 23 v d p) :
    ∃ c : G.Cf, v = G.cfv c := by
  have hs := Tryz.underlying23
  have hC : Tryz.prog.cellsOf 23 = 9 := by kernel_rfl
  obtain ⟨cs, rfl, hsz⟩ := okWide_struct hs hv
  obtain ⟨l⟩ := cs
  match l, hsz.trans hC with
  | [c0, c1, c2, c3, c4, c5, c6, c7, c8], _ =>
    obtain ⟨fuel, hf⟩ := h
    obtain ⟨xs, n, _, _, _, hlen, hg⟩ := DataW.trod_struct hs hf
    have i3 : Tryz.prog.cellsOf 3 = 1 := by kernel_rfl
    have i4 : Tryz.prog.cellsOf 4 = 1 := by kernel_rfl
    match xs, hlen with
    | [y0, y1, y2, y3, y4, y5, y6, y7, y8], _ =>
      have g0 := hg 0 _ rfl
      have g1 := hg 1 _ rfl
      have g2 := hg 2 _ rfl
      have g3 := hg 3 _ rfl
      have g4 := hg 4 _ rfl
      have g5 := hg 5 _ rfl
      have g6 := hg 6 _ rfl
      have g7 := hg 7 _ rfl
      have g8 := hg 8 _ rfl
      simp [Value.cells, i3, i4] at g0 g1 g2 g3 g4 g5 g6 g7 g8
      obtain ⟨a0, e0, _, _⟩ := DataW.trod_int Tryz.underlying3 g0
      obtain ⟨a1, e1, _, _⟩ := DataW.trod_int Tryz.underlying3 g1
      obtain ⟨a2, e2, _, _⟩ := DataW.trod_int Tryz.underlying3 g2
      obtain ⟨a3, e3, _, _⟩ := DataW.trod_int Tryz.underlying3 g3
      obtain ⟨a4, e4, _, _⟩ := DataW.trod_int Tryz.underlying3 g4
      obtain ⟨a5, e5, _, _⟩ := DataW.trod_int Tryz.underlying3 g5
      obtain ⟨a6, e6, _, _⟩ := DataW.trod_int Tryz.underlying3 g6
      obtain ⟨a7, e7, _⟩ := DataW.trod_bool Tryz.underlying4 g7
      obtain ⟨a8, e8, _⟩ := DataW.trod_bool Tryz.underlying4 g8
      simp at e0 e1 e2 e3 e4 e5 e6 e7 e8
      subst e0 e1 e2 e3 e4 e5 e6 e7 e8
      exact ⟨⟨a0, a1, a2, a3, a4, a5, a6, a7, a8⟩, rfl⟩
end
end Go.Proofs.YtoejpngdkcnnhaaGreat

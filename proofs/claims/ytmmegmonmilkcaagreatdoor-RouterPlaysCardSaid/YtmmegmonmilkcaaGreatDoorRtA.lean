/-
  What the arguments of the laws read as.
  What a flit among a law's arguments reads as.
  What a parcel and a row of words among a law's arguments read as.
  What a law's arguments read as: a config, four numbers, a step, a row of steps.
-/
import Derived.Test.YtmmegmonmilkcaaGreatDoorBase
import Derived.Test.YtmmegmonmilkcaaGreatDoorRows
import Derived.ProofKit
import Derived.OpenShut
import Derived.Lib.SmallJoins
import Derived.Deep.Slices
import Derived.ChangeOld
import Derived.ChangeMaps5
import Derived.Test.YtmmegmonmilkcaaGreatDoorGoodR
import Derived.Deep.SlicePairs
import Derived.Test.YtmmegmonmilkcaaGreatDoorRtO

namespace Go.Proofs.YtmmegmonmilkcaaGreatDoor
open Go.ChangeShapes Go.WideShapes Go.ChangeAt Go.RowKit Go.Joins
theorem Tryz.own : ownKnob Tryz.prog.godebug = none := by kernel_rfl
theorem Tryz.laidOut : laidOutB Tryz.prog = true := by kernel_rfl
section
variable {H : Type} {enc : TypeId × Value → H} {w : World} {base : Nat} {spare : Nat → Bool} {held : Bool}
end
end Go.Proofs.YtmmegmonmilkcaaGreatDoor

namespace Go.Proofs.YtmmegmonmilkcaaGreatDoor
open Go.ChangeShapes Go.WideShapes Go.ChangeAt Go.RowKit Go.Joins Go.Deep
section
variable {H : Type} {enc : TypeId × Value → H} {w : World} {base : Nat} {spare : Nat → Bool} {held : Bool}
end
end Go.Proofs.YtmmegmonmilkcaaGreatDoor

namespace Go.Proofs.YtmmegmonmilkcaaGreatDoor
open Go.ChangeShapes Go.WideShapes Go.ChangeAt Go.RowKit Go.Joins Go.Deep
section
variable {H : Type} {enc : TypeId × Value → H} {w : World} {base : Nat} {spare : Nat → Bool} {held : Bool}
theorem lt_of_cell {a : Addr} {v : Value} (h : w.cell? a = some v) : a.block < w.heap.size := by
 rcases Nat.lt_or_ge a.block w.heap.size with c | c
 ·exact c
 ·simp [World.cell?, Array.getElem?_eq_none c] at h
theorem tos_of_trod {n : Nat} {v : Value} {y : DataW H × List MemPlace} (h : DataW.trod enc Tryz.prog w base spare held n 37 [v] = some y) :
  ∃ (a : Option Addr) (l : List (Int × Int)) (cap : Nat), v = .slice a l.length cap ∧ l.length ≤ cap ∧ cap ≤ maxLen ∧ Rd w a (pc l) := by
 rcases open_slice_pairs Tryz.underlying37 Tryz.underlying76 (by kernel_rfl) rfl rfl (by kernel_rfl) (by kernel_rfl) h with ⟨hcs, _⟩ | ⟨ad, len, cap, m, n', V0, V1, D0, D1, P0, P1, hcs, _, hl, hm, hmm, _, hi⟩
 ·simp at hcs
  exact ⟨none, [], 0, by rw [hcs]; rfl, Nat.le_refl _, by simp [maxLen], fun j v hj => by simp [pc] at hj⟩
 ·simp at hcs
  have hlm : len ≤ m := by rw [hmm]; split <;> omega
  have key : ∀ i, i < len → ∃ q : Int × Int, w.cell? (ad.add (i * 2)) = some (.int .i64 q.1) ∧ w.cell? (ad.add (i * 2 + 1)) = some (.int .i64 q.2) := by
   intro i hil
   obtain ⟨h0, h1, t0, t1⟩ := hi i (by omega)
   replace t0 : DataW.trod enc Tryz.prog w base spare held n' 3 [V0 i] = _ := t0
   replace t1 : DataW.trod enc Tryz.prog w base spare held n' 3 [V1 i] = _ := t1
   obtain ⟨p, e0, _, _⟩ := DataW.trod_int Tryz.underlying3 t0
   obtain ⟨q, e1, _, _⟩ := DataW.trod_int Tryz.underlying3 t1
   simp at e0 e1
   exact ⟨(p, q), by rw [h0, e0], by rw [h1, e1]⟩
  obtain ⟨X, hX⟩ := choose_lt key
  obtain ⟨g, off, spot⟩ := ad
  have hsp : 0 < len → spot = none := fun h0 => by
   have := World.cell?_spot (hX 0 h0).1
   simpa [Addr.add] using this
  refine ⟨some ⟨g, off, spot⟩, (List.range len).map X, cap, by rw [hcs]; simp, by simpa using hl, hm, fun j v hj => ?_⟩
  have hjl := (List.getElem?_eq_some_iff.mp hj).1
  rw [pc_len, List.length_map, List.length_range] at hjl
  have hl2 : j / 2 < len := by omega
  obtain rfl := hsp (by omega)
  obtain ⟨x0, x1⟩ := hX (j / 2) hl2
  have hp := pc_at ((List.range len).map X) (j / 2) (by rw [List.length_map, List.length_range]; exact hl2)
  have hg : ((List.range len).map X).getD (j / 2) (0, 0) = X (j / 2) := by simp [hl2]
  rw [hg] at hp
  rw [WideShapes.add_plain] at x0 x1
  rcases (by omega : j = j / 2 * 2 ∨ j = j / 2 * 2 + 1) with e | e
  ·rw [e, hp.1] at hj
   refine ⟨g, off, rfl, lt_of_cell (a := ⟨g, _, none⟩) x0, ?_⟩
   rw [e, x0]
   exact hj
  ·rw [e, hp.2] at hj
   refine ⟨g, off, rfl, lt_of_cell (a := ⟨g, _, none⟩) x0, ?_⟩
   rw [e, x1]
   exact hj
end
end Go.Proofs.YtmmegmonmilkcaaGreatDoor

namespace Go.Proofs.YtmmegmonmilkcaaGreatDoor
open Go.ChangeShapes Go.WideShapes Go.ChangeAt Go.RowKit Go.Joins Go.Deep
theorem wf_i64 {n : Int} (h : (Lit.int .i64 n).wf = true) : -9223372036854775808 ≤ n ∧ n ≤ 9223372036854775807 := by
 simp [Lit.wf, IntKind.min, IntKind.max, IntKind.signed, IntKind.bits] at h
 omega
section
variable {H : Type} {enc : TypeId × Value → H} {w : World} {base : Nat} {spare : Nat → Bool} {held : Bool}
set_option maxRecDepth 100000 in
theorem open_cf {r : Reach} {b0 : Nat} {v : Value} {d : DataW H} {p : List MemPlace} (hv : Value.okWide Tryz.prog w r b0 23 v) (h : DataW.Trod enc Tryz.prog w base spare held 23 v d p) :
  ∃ c : G.Cf, v = G.cfv c := by
 have hs := Tryz.underlying23
 have hC : Tryz.prog.cellsOf 23 = 9 := by kernel_rfl
 obtain ⟨cs, rfl, hsz⟩ := okWide_struct hs hv
 obtain ⟨l⟩ := cs
 match l, hsz.trans hC with
 | [c0, c1, c2, c3, c4, c5, c6, c7, c8], _ =>
  obtain ⟨fuel, hf⟩ := h
  obtain ⟨xs, n, _, _, _, hlen, hg⟩ := DataW.trod_struct hs hf
  have i3 : Tryz.prog.cellsOf 3 = 1 := by kernel_rfl
  have i4 : Tryz.prog.cellsOf 4 = 1 := by kernel_rfl
  match xs, hlen with
  | [y0, y1, y2, y3, y4, y5, y6, y7, y8], _ =>
   have g0 := hg 0 _ rfl
   have g1 := hg 1 _ rfl
   have g2 := hg 2 _ rfl
   have g3 := hg 3 _ rfl
   have g4 := hg 4 _ rfl
   have g5 := hg 5 _ rfl
   have g6 := hg 6 _ rfl
   have g7 := hg 7 _ rfl
   have g8 := hg 8 _ rfl
   simp [Value.cells, i3, i4] at g0 g1 g2 g3 g4 g5 g6 g7 g8
   obtain ⟨a0, e0, _, _⟩ := DataW.trod_int Tryz.underlying3 g0
   obtain ⟨a1, e1, _, _⟩ := DataW.trod_int Tryz.underlying3 g1
   obtain ⟨a2, e2, _, _⟩ := DataW.trod_int Tryz.underlying3 g2
   obtain ⟨a3, e3, _, _⟩ := DataW.trod_int Tryz.underlying3 g3
   obtain ⟨a4, e4, _, _⟩ := DataW.trod_int Tryz.underlying3 g4
   obtain ⟨a5, e5, _, _⟩ := DataW.trod_int Tryz.underlying3 g5
   obtain ⟨a6, e6, _, _⟩ := DataW.trod_int Tryz.underlying3 g6
   obtain ⟨a7, e7, _⟩ := DataW.trod_bool Tryz.underlying4 g7
   obtain ⟨a8, e8, _⟩ := DataW.trod_bool Tryz.underlying4 g8
   simp at e0 e1 e2 e3 e4 e5 e6 e7 e8
   subst e0 e1 e2 e3 e4 e5 e6 e7 e8
   exact ⟨⟨a0, a1, a2, a3, a4, a5, a6, a7, a8⟩, rfl⟩
theorem bools_of_trod {n : Nat} {v : Value} {y : DataW H × List MemPlace} (h : DataW.trod enc Tryz.prog w base spare held n 40 [v] = some y) :
  ∃ (a : Option Addr) (l : List Bool) (cap : Nat), v = .slice a l.length cap ∧ l.length ≤ cap ∧ cap ≤ maxLen ∧ Rd w a (tb l) := by
 rcases open_slice Tryz.underlying40 h with ⟨hcs, _⟩ | ⟨ad, len, cap, m, n', D, Pl, hcs, _, hl, hm, hmm, _, hi⟩
 ·simp at hcs
  exact ⟨none, [], 0, by rw [hcs]; rfl, Nat.le_refl _, by simp [maxLen], fun j v hj => by simp [tb] at hj⟩
 ·simp at hcs
  rw [show Tryz.prog.cellsOf 4 = 1 by kernel_rfl] at hi
  have hlm : len ≤ m := by rw [hmm]; split <;> omega
  have key : ∀ i, i < len → ∃ q : Bool, w.cell? (ad.add i) = some (.bool q) := by
   intro i hil
   obtain ⟨cs', hc, ht⟩ := hi i (by omega)
   obtain ⟨q, e0, _⟩ := DataW.trod_bool Tryz.underlying4 ht
   obtain ⟨_, _, hat⟩ := World.cells?_some hc
   have h0 := hat 0 (by omega)
   rw [e0, Go.Deep.add_add] at h0
   exact ⟨q, by simpa using h0⟩
  obtain ⟨X, hX⟩ := choose_lt key
  obtain ⟨g, off, spot⟩ := ad
  have hsp : 0 < len → spot = none := fun h0 => by
   have := World.cell?_spot (hX 0 h0)
   simpa [Addr.add] using this
  refine ⟨some ⟨g, off, spot⟩, (List.range len).map X, cap, by rw [hcs]; simp, by simpa using hl, hm, fun j v hj => ?_⟩
  have hjl := (List.getElem?_eq_some_iff.mp hj).1
  simp only [tb, List.length_map, List.length_range] at hjl
  obtain rfl := hsp (by omega)
  have x0 := hX j hjl
  rw [WideShapes.add_plain] at x0
  have hg := tb_at ((List.range len).map X) j (by rw [List.length_map, List.length_range]; exact hjl)
  have hd : ((List.range len).map X).getD j false = X j := by simp [hjl]
  rw [hd, hj] at hg
  refine ⟨g, off, rfl, lt_of_cell (a := ⟨g, _, none⟩) x0, ?_⟩
  rw [x0, hg]
theorem pc_of_trod {n : Nat} {cs : List Value} {y : DataW H × List MemPlace} (hl : cs.length = 4) (h : DataW.trod enc Tryz.prog w base spare held n 39 cs = some y) :
  ∃ (s : Int) (c : Bool) (a : Option Addr) (l : List (Int × Int)) (cap : Nat) (x : ByteArray), cs = [.int .i64 s, .bool c, .slice a l.length cap, .string x] ∧ l.length ≤ maxLen ∧ x.size ≤ maxLen ∧ Rd w a (pc l) := by
 have hs := Tryz.underlying39
 match cs, hl with
 | [c0, c1, c2, c3], _ =>
  obtain ⟨xs, m, _, _, _, hlen, hg⟩ := DataW.trod_struct hs h
  have i3 : Tryz.prog.cellsOf 3 = 1 := by kernel_rfl
  have i4 : Tryz.prog.cellsOf 4 = 1 := by kernel_rfl
  have i5 : Tryz.prog.cellsOf 37 = 1 := by kernel_rfl
  have i9 : Tryz.prog.cellsOf 9 = 1 := by kernel_rfl
  match xs, hlen with
  | [y0, y1, y2, y3], _ =>
   have g0 := hg 0 _ rfl
   have g1 := hg 1 _ rfl
   have g2 := hg 2 _ rfl
   have g3 := hg 3 _ rfl
   simp [i3, i4, i5, i9] at g0 g1 g2 g3
   obtain ⟨a0, e0, _, _⟩ := DataW.trod_int Tryz.underlying3 g0
   obtain ⟨a1, e1, _⟩ := DataW.trod_bool Tryz.underlying4 g1
   obtain ⟨a2, l2, cap2, e2, q1, q2, q3⟩ := tos_of_trod g2
   obtain ⟨a3, e3, _, hm⟩ := DataW.trod_string Tryz.underlying9 g3
   simp at e0 e1 e3
   subst e0 e1 e2 e3
   exact ⟨a0, a1, a2, l2, cap2, a3, rfl, Nat.le_trans q1 q2, hm, q3⟩
theorem op_of_trod {n : Nat} {cs : List Value} {y : DataW H × List MemPlace} (hl : cs.length = 9) (h : DataW.trod enc Tryz.prog w base spare held n 42 cs = some y) :
  ∃ x : Opn, cs = (oc x).toList ∧ x.In w := by
 have hs := Tryz.underlying42
 match cs, hl with
 | [c0, c1, c2, c3, c4, c5, c6, c7, c8], _ =>
  obtain ⟨xs, m, _, _, _, hlen, hg⟩ := DataW.trod_struct hs h
  have i3 : Tryz.prog.cellsOf 3 = 1 := by kernel_rfl
  have iP : Tryz.prog.cellsOf 39 = 4 := by kernel_rfl
  have iB : Tryz.prog.cellsOf 40 = 1 := by kernel_rfl
  match xs, hlen with
  | [y0, y1, y2, y3, y4, y5], _ =>
   have g0 := hg 0 _ rfl
   have g1 := hg 1 _ rfl
   have g2 := hg 2 _ rfl
   have g3 := hg 3 _ rfl
   have g4 := hg 4 _ rfl
   have g5 := hg 5 _ rfl
   simp [i3, iP, iB] at g0 g1 g2 g3 g4 g5
   obtain ⟨a0, e0, _, _⟩ := DataW.trod_int Tryz.underlying3 g0
   obtain ⟨a1, e1, _, _⟩ := DataW.trod_int Tryz.underlying3 g1
   obtain ⟨a2, e2, _, _⟩ := DataW.trod_int Tryz.underlying3 g2
   obtain ⟨a3, e3, _, w3⟩ := DataW.trod_int Tryz.underlying3 g3
   obtain ⟨s, c, a, l, cap, x, e4, q1, q2, q3⟩ := pc_of_trod (by rfl) g4
   obtain ⟨ma, my, mcap, e5, r1, r2, r3⟩ := bools_of_trod g5
   simp at e0 e1 e2 e3 e4
   obtain ⟨e4, e6, e7, e8⟩ := e4
   subst e0 e1 e2 e3 e4 e5 e6 e7 e8
   exact ⟨⟨a0, a1, a2, a3, s, c, a, cap, l, x, ma, mcap, my⟩, rfl, ⟨q3, q1, r3, Nat.le_trans r1 r2, q2, (wf_i64 w3).1, (wf_i64 w3).2⟩⟩
instance : Inhabited Opn := ⟨⟨0, 0, 0, 0, 0, false, none, 0, [], ⟨#[]⟩, none, 0, []⟩⟩
theorem ops_of_trod {n : Nat} {v : Value} {y : DataW H × List MemPlace} (h : DataW.trod enc Tryz.prog w base spare held n 24 [v] = some y) :
  ∃ (a : Option Addr) (l : List Opn) (cap : Nat), v = .slice a l.length cap ∧ l.length ≤ cap ∧ cap ≤ maxLen ∧ (a = none → cap = 0) ∧ OpsIn w a l := by
 rcases open_slice Tryz.underlying24 h with ⟨hcs, _⟩ | ⟨ad, len, cap, m, n', D, Pl, hcs, _, hl, hm, hmm, _, hi⟩
 ·simp at hcs
  exact ⟨none, [], 0, by rw [hcs]; rfl, Nat.le_refl _, by simp [maxLen], fun _ => rfl, fun j hj => by simp at hj⟩
 ·simp at hcs
  rw [show Tryz.prog.cellsOf 42 = 9 by kernel_rfl] at hi
  have hlm : len ≤ m := by rw [hmm]; split <;> omega
  obtain ⟨g, off, spot⟩ := ad
  have hsp : 0 < len → spot = none := fun h0 => by
   obtain ⟨cs', hc, _⟩ := hi 0 (by omega)
   obtain ⟨_, hcl, hat⟩ := World.cells?_some hc
   have h1 := hat 0 (by omega)
   rw [List.getElem?_eq_getElem (by omega)] at h1
   have := World.cell?_spot h1
   simpa [Addr.add] using this
  have key : ∀ i, i < len → ∃ x : Opn, x.In w ∧ g < w.heap.size ∧ ∀ k, k < 9 → w.cell? ⟨g, off + i * 9 + k, none⟩ = (oc x)[k]? := by
   intro i hil
   obtain rfl := hsp (by omega)
   obtain ⟨cs', hc, ht⟩ := hi i (by omega)
   obtain ⟨_, hcl, hat⟩ := World.cells?_some hc
   obtain ⟨x, e, hin⟩ := op_of_trod hcl ht
   have hk : ∀ k, k < 9 → w.cell? ⟨g, off + i * 9 + k, none⟩ = (oc x)[k]? := fun k h9 => by
    have h1 := hat k (by omega)
    rw [Go.Deep.add_add, WideShapes.add_plain, ← Nat.add_assoc, e, Array.getElem?_toList] at h1
    exact h1
   have h0 := hk 0 (by omega)
   rw [show (oc x)[0]? = some (.int .i64 x.kd) from rfl] at h0
   exact ⟨x, hin, lt_of_cell (a := ⟨g, _, none⟩) h0, hk⟩
  obtain ⟨X, hX⟩ := choose_lt key
  refine ⟨some ⟨g, off, spot⟩, (List.range len).map X, cap, by rw [hcs]; simp, by simpa using hl, hm, fun e => (by cases e), fun j hj => ?_⟩
  have hjl : j < len := by simpa using hj
  obtain rfl := hsp (by omega)
  obtain ⟨k1, k3, k4⟩ := hX j hjl
  exact ⟨g, off, X j, rfl, k3, by simp [hjl], k1, k4⟩
end
end Go.Proofs.YtmmegmonmilkcaaGreatDoor

/-
  What a law's arguments read as: arrays of two and of three numbers, a step, rows of steps, rows of numbers.
-/
import Derived.Test.YtihfekcdghmkhaaLOps
import Derived.Test.YtihfekcdghmkhaaRows
import Derived.ProofKit
import Derived.OpenShut
import Derived.Lib.SmallJoins
import Derived.Deep.Slices
import Derived.Deep.SlicePairs
import Derived.ChangeOld
namespace Go.Proofs.Ytihfekcdghmkhaa
open Go.ChangeShapes Go.WideShapes Go.ChangeAt Go.RowKit Go.Joins Go.Deep

theorem Try.own : ownKnob Try.prog.godebug = none := by kernel_rfl
theorem Try.laidOut : laidOutB Try.prog = true := by kernel_rfl

section
variable {H : Type} {enc : TypeId × Value → H} {w : World} {base : Nat} {spare : Nat → Bool} {held : Bool}

theorem lt_of_cell {a : Addr} {v : Value} (h : w.cell? a = some v) : a.block < w.heap.size := by
  rcases Nat.lt_or_ge a.block w.heap.size with c | c
  · exact c
  · simp [World.cell?, Array.getElem?_eq_none c] at h
theorem okWide_array {t e : TypeId} {n : Nat} {P : Program} {r : Reach} {v : Value} (ht : P.underlying t = some (.array n e)) (h : Value.okWide P w r base t v) : ∃ cs, v = .agg cs ∧ cs.size = P.cellsOf t := by
  simp only [Value.okWide, ht] at h
  obtain ⟨cs, h1, h2, _⟩ := h
  exact ⟨cs, h1, h2⟩
theorem open_two {t e : TypeId} {k : IntKind} {r : Reach} {b0 : Nat} {v : Value} {d : DataW H} {p : List MemPlace} (ht : Try.prog.underlying t = some (.array 2 e)) (he : Try.prog.underlying e = some (.int k)) (hc : Try.prog.cellsOf e = 1) (hC : Try.prog.cellsOf t = 2)
    (hv : Value.okWide Try.prog w r b0 t v) (h : DataW.Trod enc Try.prog w base spare held t v d p) :
    ∃ a b : Int, v = .agg #[.int k a, .int k b] := by
  obtain ⟨cs, rfl, hsz⟩ := okWide_array ht hv
  obtain ⟨l⟩ := cs
  match l, hsz.trans hC with
  | [c0, c1], _ =>
    obtain ⟨fuel, hf⟩ := h
    obtain ⟨xs, m, _, _, _, hl, hx⟩ := DataW.trod_array ht hf
    match xs, hl with
    | [y0, y1], _ =>
      have h0 := hx 0 (by omega)
      have h1 := hx 1 (by omega)
      simp [hc, Value.cells] at h0 h1
      obtain ⟨a, e0, _, _⟩ := DataW.trod_int he h0
      obtain ⟨b, e1, _, _⟩ := DataW.trod_int he h1
      simp at e0 e1
      subst e0 e1
      exact ⟨a, b, rfl⟩
theorem open_three {t e : TypeId} {k : IntKind} {r : Reach} {b0 : Nat} {v : Value} {d : DataW H} {p : List MemPlace} (ht : Try.prog.underlying t = some (.array 3 e)) (he : Try.prog.underlying e = some (.int k)) (hc : Try.prog.cellsOf e = 1) (hC : Try.prog.cellsOf t = 3)
    (hv : Value.okWide Try.prog w r b0 t v) (h : DataW.Trod enc Try.prog w base spare held t v d p) :
    ∃ a b c : Int, v = .agg #[.int k a, .int k b, .int k c] := by
  obtain ⟨cs, rfl, hsz⟩ := okWide_array ht hv
  obtain ⟨l⟩ := cs
  match l, hsz.trans hC with
  | [c0, c1, c2], _ =>
    obtain ⟨fuel, hf⟩ := h
    obtain ⟨xs, m, _, _, _, hl, hx⟩ := DataW.trod_array ht hf
    match xs, hl with
    | [y0, y1, y2], _ =>
      have h0 := hx 0 (by omega)
      have h1 := hx 1 (by omega)
      have h2 := hx 2 (by omega)
      simp [hc, Value.cells] at h0 h1 h2
      obtain ⟨a, e0, _, _⟩ := DataW.trod_int he h0
      obtain ⟨b, e1, _, _⟩ := DataW.trod_int he h1
      obtain ⟨c, e2, _, _⟩ := DataW.trod_int he h2
      simp at e0 e1 e2
      subst e0 e1 e2
      exact ⟨a, b, c, rfl⟩
/-- A step. -/
theorem open_op {r : Reach} {b0 : Nat} {v : Value} {d : DataW H} {p : List MemPlace} (hv : Value.okWide Try.prog w r b0 40 v) (h : DataW.Trod enc Try.prog w base spare held 40 v d p) :
    ∃ o : Opn, v = ov o := by
  have hs := Try.underlying40
  have hC : Try.prog.cellsOf 40 = 3 := by kernel_rfl
  obtain ⟨cs, rfl, hsz⟩ := okWide_struct hs hv
  obtain ⟨l⟩ := cs
  match l, hsz.trans hC with
  | [c0, c1, c2], _ =>
    obtain ⟨fuel, hf⟩ := h
    obtain ⟨xs, n, _, _, _, hlen, hg⟩ := DataW.trod_struct hs hf
    have i3 : Try.prog.cellsOf 3 = 1 := by kernel_rfl
    have i8 : Try.prog.cellsOf 33 = 1 := by kernel_rfl
    match xs, hlen with
    | [y0, y1, y2], _ =>
      have g0 := hg 0 _ rfl
      have g1 := hg 1 _ rfl
      have g2 := hg 2 _ rfl
      simp [Value.cells, i3, i8] at g0 g1 g2
      obtain ⟨a0, e0, _, _⟩ := DataW.trod_int Try.underlying3 g0
      obtain ⟨a1, e1, _, _⟩ := DataW.trod_int Try.underlying3 g1
      obtain ⟨a2, e2, _, _⟩ := DataW.trod_int Try.underlying33 g2
      simp at e0 e1 e2
      subst e0 e1 e2
      exact ⟨⟨a0, a1, a2⟩, rfl⟩
instance : Inhabited Opn := ⟨⟨0, 0, 0⟩⟩
/-- A row of steps that came in. -/
theorem ops_of_trod {n : Nat} {v : Value} {y : DataW H × List MemPlace} (h : DataW.trod enc Try.prog w base spare held n 23 [v] = some y) :
    ∃ (a : Option Addr) (l : List Opn) (cap : Nat), v = .slice a l.length cap ∧ l.length ≤ cap ∧ cap ≤ maxLen ∧ (a = none → cap = 0) ∧ Rd w a (ops l) := by
  rcases open_slice Try.underlying23 h with ⟨hcs, _⟩ | ⟨ad, len, cap, m, n', D, Pl, hcs, _, hl, hm, hmm, _, hi⟩
  · simp at hcs
    exact ⟨none, [], 0, by rw [hcs]; rfl, Nat.le_refl _, by simp [maxLen], fun _ => rfl, fun j v hj => by simp [ops] at hj⟩
  · simp at hcs
    rw [show Try.prog.cellsOf 40 = 3 by kernel_rfl] at hi
    have hlm : len ≤ m := by rw [hmm]; split <;> omega
    obtain ⟨g, off, spot⟩ := ad
    have hsp : 0 < len → spot = none := fun h0 => by
      obtain ⟨cs', hc, _⟩ := hi 0 (by omega)
      obtain ⟨_, hcl, hat⟩ := World.cells?_some hc
      have h1 := hat 0 (by omega)
      rw [List.getElem?_eq_getElem (by omega)] at h1
      have := World.cell?_spot h1
      simpa [Addr.add] using this
    have key : ∀ i, i < len → ∃ x : Opn, w.cell? ⟨g, off + i * 3, none⟩ = some (.int .i64 x.kd) ∧ w.cell? ⟨g, off + i * 3 + 1, none⟩ = some (.int .i64 x.lane) ∧ w.cell? ⟨g, off + i * 3 + 2, none⟩ = some (.int .u64 x.word) := by
      intro i hil
      obtain rfl := hsp (by omega)
      obtain ⟨cs', hc, ht⟩ := hi i (by omega)
      obtain ⟨ys, n2, _, hy, hlen, hyl, hf⟩ := DataW.trod_struct Try.underlying40 ht
      obtain ⟨_, hcl, hat⟩ := World.cells?_some hc
      match cs', hcl with
      | [c0, c1, c2], _ =>
        have f0 := hf 0 _ rfl
        have f1 := hf 1 _ rfl
        have f2 := hf 2 _ rfl
        have e0 : DataW.trod enc Try.prog w base spare held n2 3 [c0] = ys[0]? := f0
        have e1 : DataW.trod enc Try.prog w base spare held n2 3 [c1] = ys[1]? := f1
        have e2 : DataW.trod enc Try.prog w base spare held n2 33 [c2] = ys[2]? := f2
        have l3 : ys.length = 3 := hyl
        rw [List.getElem?_eq_getElem (by omega)] at e0 e1 e2
        obtain ⟨k, q0, _, _⟩ := DataW.trod_int Try.underlying3 e0
        obtain ⟨v, q1, _, _⟩ := DataW.trod_int Try.underlying3 e1
        obtain ⟨u, q2, _, _⟩ := DataW.trod_int Try.underlying33 e2
        simp at q0 q1 q2
        subst q0 q1 q2
        have h0 := hat 0 (by omega)
        have h1 := hat 1 (by omega)
        have h2 := hat 2 (by omega)
        rw [Go.Deep.add_add] at h0 h1 h2
        rw [WideShapes.add_plain] at h0 h1 h2
        exact ⟨⟨k, v, u⟩, h0, h1, h2⟩
    obtain ⟨X, hX⟩ := choose_lt key
    refine ⟨some ⟨g, off, spot⟩, (List.range len).map X, cap, by rw [hcs]; simp, by simpa using hl, hm, fun e => (by cases e), fun j p hj => ?_⟩
    have hjl := (List.getElem?_eq_some_iff.mp hj).1
    rw [ops_len, List.length_map, List.length_range] at hjl
    have hq : j / 3 < len := by omega
    obtain rfl := hsp (by omega)
    obtain ⟨h0, h1, h2⟩ := hX (j / 3) hq
    obtain ⟨z0, z1, z2⟩ := ops_at ((List.range len).map X) (j / 3) (X (j / 3)) (by simp [hq])
    refine ⟨g, off, rfl, lt_of_cell (a := ⟨g, _, none⟩) h0, ?_⟩
    rcases (show j = j / 3 * 3 ∨ j = j / 3 * 3 + 1 ∨ j = j / 3 * 3 + 2 by omega) with e | e | e
    · rw [e] at hj ⊢
      rw [z0] at hj
      rw [h0]; exact hj
    · rw [e] at hj ⊢
      rw [z1] at hj
      rw [← Nat.add_assoc, h1]; exact hj
    · rw [e] at hj ⊢
      rw [z2] at hj
      rw [← Nat.add_assoc, h2]; exact hj
theorem nums_of_trod {t e : TypeId} {k : IntKind} (ht : Try.prog.underlying t = some (.slice e)) (he : Try.prog.underlying e = some (.int k)) (hc : Try.prog.cellsOf e = 1)
    {n : Nat} {v : Value} {y : DataW H × List MemPlace} (h : DataW.trod enc Try.prog w base spare held n t [v] = some y) :
    ∃ (a : Option Addr) (l : List Int) (cap : Nat), v = .slice a l.length cap ∧ l.length ≤ cap ∧ cap ≤ maxLen ∧ Rd w a (l.map fun n => .int k n) ∧ ∀ n ∈ l, (Lit.int k n).wf = true := by
  rcases open_ints ht he hc h with ⟨hcs, _⟩ | ⟨x, l, c, zs, hcs, _, hl, hm, hz, _, hcell, hwz⟩
  · simp at hcs
    exact ⟨none, [], 0, by rw [hcs]; rfl, Nat.le_refl _, by simp [maxLen], fun j v hj => by simp at hj, fun n hn => by cases hn⟩
  · simp at hcs
    have hzl : l ≤ zs.length := by rw [hz]; split <;> omega
    refine ⟨some x, zs.take l, c, ?_, ?_, hm, ?_, fun n hn => hwz n (List.mem_of_mem_take hn)⟩
    · rw [hcs, List.length_take, Nat.min_eq_left hzl]
    · rw [List.length_take]; omega
    · intro j v hj
      have hjl : j < l ∧ j < zs.length := by
        have := (List.getElem?_eq_some_iff.mp hj).1
        simp at this
        omega
      have hcj := hcell j hjl.2
      have h0 := hcell 0 (by omega)
      obtain ⟨b, off, spot⟩ := x
      have hspot : spot = none := by simpa [Addr.add] using World.cell?_spot h0
      subst hspot
      have hc' : w.cell? ⟨b, off + j, none⟩ = some (.int k (zs.getD j 0)) := by rw [← WideShapes.add_plain]; exact hcj
      have hv : v = .int k (zs.getD j 0) := by
        rw [List.getElem?_map, List.getElem?_take_of_lt hjl.1] at hj
        simp [hjl.2] at hj
        rw [← hj]; simp [hjl.2]
      refine ⟨b, off, rfl, ?_, ?_⟩
      · rcases Nat.lt_or_ge b w.heap.size with c | c
        · exact c
        · simp [World.cell?, Array.getElem?_eq_none c] at hc'
      · rw [hc', hv]
theorem ints_of_trod {n : Nat} {v : Value} {y : DataW H × List MemPlace} (h : DataW.trod enc Try.prog w base spare held n 27 [v] = some y) :
    ∃ (a : Option Addr) (l : List Int) (cap : Nat), v = .slice a l.length cap ∧ l.length ≤ cap ∧ cap ≤ maxLen ∧ Rd w a (vi l) := by
  obtain ⟨a, l, cap, h1, h2, h3, h4, _⟩ := nums_of_trod Try.underlying27 Try.underlying3 (by kernel_rfl) h
  exact ⟨a, l, cap, h1, h2, h3, h4⟩
end
end Go.Proofs.Ytihfekcdghmkhaa

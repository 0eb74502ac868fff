/-
  What a law's arguments read as: a packet, rows of steps, rows of numbers. (Written by gen_iargs.py.)
-/
import Derived.Test.YtpmkpjnhdehnhaaIOpn
import Derived.Test.YtpmkpjnhdehnhaaRows
import Derived.ProofKit
import Derived.OpenShut
import Derived.Lib.SmallJoins
import Derived.Deep.Slices
import Derived.Deep.SlicePairs
import Derived.ChangeOld
import Derived.ChangeMaps5
namespace Go.Proofs.Ytpmkpjnhdehnhaa
open Go.ChangeShapes Go.WideShapes Go.ChangeAt Go.RowKit Go.Joins Go.Deep

theorem Try.own : ownKnob Try.prog.godebug = none := by kernel_rfl
theorem Try.laidOut : laidOutB Try.prog = true := by kernel_rfl

section
variable {H : Type} {enc : TypeId × Value → H} {w : World} {base : Nat} {spare : Nat → Bool} {held : Bool}

theorem lt_of_cell {a : Addr} {v : Value} (h : w.cell? a = some v) : a.block < w.heap.size := by
  rcases Nat.lt_or_ge a.block w.heap.size with c | c
  · exact c
  · simp [World.cell?, Array.getElem?_eq_none c] at h
theorem nums_of_trod {t e : TypeId} {k : IntKind} (ht : Try.prog.underlying t = some (.slice e)) (he : Try.prog.underlying e = some (.int k)) (hc : Try.prog.cellsOf e = 1)
    {n : Nat} {v : Value} {y : DataW H × List MemPlace} (h : DataW.trod enc Try.prog w base spare held n t [v] = some y) :
    ∃ (a : Option Addr) (l : List Int) (cap : Nat), v = .slice a l.length cap ∧ l.length ≤ cap ∧ cap ≤ maxLen ∧ Rd w a (l.map fun n => .int k n) ∧ ∀ n ∈ l, (Lit.int k n).wf = true := by
  rcases open_ints ht he hc h with ⟨hcs, _⟩ | ⟨x, l, c, zs, hcs, _, hl, hm, hz, _, hcell, hwz⟩
  · simp at hcs
    exact ⟨none, [], 0, by rw [hcs]; rfl, Nat.le_refl _, by simp [maxLen], fun j v hj => by simp at hj, fun n hn => by cases hn⟩
  · simp at hcs
    have hzl : l ≤ zs.length := by rw [hz]; split <;> omega
    refine ⟨some x, zs.take l, c, ?_, ?_, hm, ?_, fun n hn => hwz n (List.mem_of_mem_take hn)⟩
    · rw [hcs, List.length_take, Nat.min_eq_left hzl]
    · rw [List.length_take]; omega
    · intro j v hj
      have hjl : j < l ∧ j < zs.length := by
        have := (List.getElem?_eq_some_iff.mp hj).1
        simp at this
        omega
      have hcj := hcell j hjl.2
      have h0 := hcell 0 (by omega)
      obtain ⟨b, off, spot⟩ := x
      have hspot : spot = none := by simpa [Addr.add] using World.cell?_spot h0
      subst hspot
      have hc' : w.cell? ⟨b, off + j, none⟩ = some (.int k (zs.getD j 0)) := by rw [← WideShapes.add_plain]; exact hcj
      have hv : v = .int k (zs.getD j 0) := by
        rw [List.getElem?_map, List.getElem?_take_of_lt hjl.1] at hj
        simp [hjl.2] at hj
        rw [← hj]; simp [hjl.2]
      refine ⟨b, off, rfl, ?_, ?_⟩
      · rcases Nat.lt_or_ge b w.heap.size with c | c
        · exact c
        · simp [World.cell?, Array.getElem?_eq_none c] at hc'
      · rw [hc', hv]
theorem ints_of_trod {n : Nat} {v : Value} {y : DataW H × List MemPlace} (h : DataW.trod enc Try.prog w base spare held n 51 [v] = some y) :
    ∃ (a : Option Addr) (l : List Int) (cap : Nat), v = .slice a l.length cap ∧ l.length ≤ cap ∧ cap ≤ maxLen ∧ Rd w a (l.map (.int .i64 ·)) := by
  obtain ⟨a, l, cap, h1, h2, h3, h4, _⟩ := nums_of_trod Try.underlying51 Try.underlying3 (by kernel_rfl) h
  exact ⟨a, l, cap, h1, h2, h3, h4⟩
set_option maxRecDepth 100000 in
/-- A packet. -/
theorem open_pk {r : Reach} {b0 : Nat} {v : Value} {d : DataW H} {p : List MemPlace} (hv : Value.okWide Try.prog w r b0 33 v) (h : DataW.Trod enc Try.prog w base spare held 33 v d p) :
    ∃ f : Pk, v = pkv f := by
  have hs := Try.underlying33
  have hC : Try.prog.cellsOf 33 = 4 := by kernel_rfl
  obtain ⟨cs, rfl, hsz⟩ := okWide_struct hs hv
  obtain ⟨l⟩ := cs
  match l, hsz.trans hC with
  | [c0, c1, c2, c3], _ =>
    obtain ⟨fuel, hf⟩ := h
    obtain ⟨xs, n, _, _, _, hlen, hg⟩ := DataW.trod_struct hs hf
    have i3 : Try.prog.cellsOf 3 = 1 := by kernel_rfl
    have i9 : Try.prog.cellsOf 9 = 1 := by kernel_rfl
    match xs, hlen with
    | [y0, y1, y2, y3], _ =>
      have g0 := hg 0 _ rfl
      have g1 := hg 1 _ rfl
      have g2 := hg 2 _ rfl
      have g3 := hg 3 _ rfl
      simp [Value.cells, i3, i9] at g0 g1 g2 g3
      obtain ⟨a0, e0, _, _⟩ := DataW.trod_int Try.underlying3 g0
      obtain ⟨a1, e1, _, _⟩ := DataW.trod_int Try.underlying3 g1
      obtain ⟨a2, e2, _, _⟩ := DataW.trod_int Try.underlying3 g2
      obtain ⟨a3, e3, _, hm⟩ := DataW.trod_string Try.underlying9 g3
      simp at e0 e1 e2 e3
      subst e0 e1 e2 e3
      exact ⟨⟨a0, a1, a2, a3⟩, rfl⟩
instance : Inhabited IOp := ⟨⟨0, zpk⟩⟩
set_option maxRecDepth 100000 in
/-- A row of steps that came in. -/
theorem iops_of_trod {n : Nat} {v : Value} {y : DataW H × List MemPlace} (h : DataW.trod enc Try.prog w base spare held n 22 [v] = some y) :
    ∃ (a : Option Addr) (l : List IOp) (cap : Nat), v = .slice a l.length cap ∧ l.length ≤ cap ∧ cap ≤ maxLen ∧ (a = none → cap = 0) ∧ Rd w a (iops l) ∧ ∀ o ∈ l, (Lit.int .i64 o.p.s).wf = true := by
  rcases open_slice Try.underlying22 h with ⟨hcs, _⟩ | ⟨ad, len, cap, m, n', D, Pl, hcs, _, hl, hm, hmm, _, hi⟩
  · simp at hcs
    exact ⟨none, [], 0, by rw [hcs]; rfl, Nat.le_refl _, by simp [maxLen], fun _ => rfl, fun j v hj => by simp [iops] at hj, fun o ho => by cases ho⟩
  · simp at hcs
    rw [show Try.prog.cellsOf 35 = 5 by kernel_rfl] at hi
    have hlm : len ≤ m := by rw [hmm]; split <;> omega
    obtain ⟨g, off, spot⟩ := ad
    have hsp : 0 < len → spot = none := fun h0 => by
      obtain ⟨cs', hc, _⟩ := hi 0 (by omega)
      obtain ⟨_, hcl, hat⟩ := World.cells?_some hc
      have h1 := hat 0 (by omega)
      rw [List.getElem?_eq_getElem (by omega)] at h1
      have := World.cell?_spot h1
      simpa [Addr.add] using this
    have key : ∀ i, i < len → ∃ x : IOp, (w.cell? ⟨g, off + i * 5, none⟩ = some (.int .i64 x.kd) ∧ w.cell? ⟨g, off + i * 5 + 1, none⟩ = some (.int .i64 x.p.s) ∧ w.cell? ⟨g, off + i * 5 + 2, none⟩ = some (.int .i64 x.p.d) ∧ w.cell? ⟨g, off + i * 5 + 3, none⟩ = some (.int .i64 x.p.q) ∧ w.cell? ⟨g, off + i * 5 + 4, none⟩ = some (.string x.p.x)) ∧ (Lit.int .i64 x.p.s).wf = true := by
      intro i hil
      obtain rfl := hsp (by omega)
      obtain ⟨cs', hc, ht⟩ := hi i (by omega)
      obtain ⟨ys, n2, _, hy, hlen, hyl, hf⟩ := DataW.trod_struct Try.underlying35 ht
      obtain ⟨_, hcl, hat⟩ := World.cells?_some hc
      match cs', hcl with
      | [c0, c1, c2, c3, c4], _ =>
        have f0 := hf 0 _ rfl
        have f1 := hf 1 _ rfl
        have l2 : ys.length = 2 := hyl
        have e0 : DataW.trod enc Try.prog w base spare held n2 3 [c0] = ys[0]? := f0
        have e1 : DataW.trod enc Try.prog w base spare held n2 33 [c1, c2, c3, c4] = ys[1]? := f1
        rw [List.getElem?_eq_getElem (by omega)] at e0 e1
        obtain ⟨zs, n3, _, _, _, hzl, hz⟩ := DataW.trod_struct Try.underlying33 e1
        have l4 : zs.length = 4 := hzl
        have z0 := hz 0 _ rfl
        have z1 := hz 1 _ rfl
        have z2 := hz 2 _ rfl
        have z3 := hz 3 _ rfl
        have d0 : DataW.trod enc Try.prog w base spare held n3 3 [c1] = zs[0]? := z0
        have d1 : DataW.trod enc Try.prog w base spare held n3 3 [c2] = zs[1]? := z1
        have d2 : DataW.trod enc Try.prog w base spare held n3 3 [c3] = zs[2]? := z2
        have d3 : DataW.trod enc Try.prog w base spare held n3 9 [c4] = zs[3]? := z3
        rw [List.getElem?_eq_getElem (by omega)] at d0 d1 d2 d3
        obtain ⟨k, q0, _, _⟩ := DataW.trod_int Try.underlying3 e0
        obtain ⟨s1, q1, _, ws⟩ := DataW.trod_int Try.underlying3 d0
        obtain ⟨s2, q2, _, _⟩ := DataW.trod_int Try.underlying3 d1
        obtain ⟨s3, q3, _, _⟩ := DataW.trod_int Try.underlying3 d2
        obtain ⟨s4, q4, _, _⟩ := DataW.trod_string Try.underlying9 d3
        simp at q0 q1 q2 q3 q4
        subst q0 q1 q2 q3 q4
        have h0 := hat 0 (by omega)
        have h1 := hat 1 (by omega)
        have h2 := hat 2 (by omega)
        have h3 := hat 3 (by omega)
        have h4 := hat 4 (by omega)
        rw [Go.Deep.add_add] at h0 h1 h2 h3 h4
        rw [WideShapes.add_plain] at h0 h1 h2 h3 h4
        exact ⟨⟨k, ⟨s1, s2, s3, s4⟩⟩, ⟨h0, h1, h2, h3, h4⟩, ws⟩
    obtain ⟨X, hX⟩ := choose_lt key
    refine ⟨some ⟨g, off, spot⟩, (List.range len).map X, cap, by rw [hcs]; simp, by simpa using hl, hm, fun e => (by cases e), fun j p hj => ?_, fun o ho => ?_⟩
    · have hjl := (List.getElem?_eq_some_iff.mp hj).1
      rw [iops_len, List.length_map, List.length_range] at hjl
      have hq : j / 5 < len := by omega
      obtain rfl := hsp (by omega)
      obtain ⟨⟨h0, h1, h2, h3, h4⟩, _⟩ := hX (j / 5) hq
      obtain ⟨z0, z1, z2, z3, z4⟩ := iops_at ((List.range len).map X) (j / 5) (X (j / 5)) (by simp [hq])
      refine ⟨g, off, rfl, lt_of_cell (a := ⟨g, _, none⟩) h0, ?_⟩
      rcases (show j = j / 5 * 5 ∨ j = j / 5 * 5 + 1 ∨ j = j / 5 * 5 + 2 ∨ j = j / 5 * 5 + 3 ∨ j = j / 5 * 5 + 4 by omega) with e | e | e | e | e
      · rw [e] at hj ⊢
        rw [z0] at hj
        rw [h0]; exact hj
      · rw [e] at hj ⊢
        rw [z1] at hj
        rw [← Nat.add_assoc, h1]; exact hj
      · rw [e] at hj ⊢
        rw [z2] at hj
        rw [← Nat.add_assoc, h2]; exact hj
      · rw [e] at hj ⊢
        rw [z3] at hj
        rw [← Nat.add_assoc, h3]; exact hj
      · rw [e] at hj ⊢
        rw [z4] at hj
        rw [← Nat.add_assoc, h4]; exact hj
    · obtain ⟨i, hi, rfl⟩ := List.mem_map.1 ho
      exact (hX i (List.mem_range.1 hi)).2
end
end Go.Proofs.Ytpmkpjnhdehnhaa

/-
  What a row of numbers and a step among a law's arguments read as.
-/
import Derived.Test.YtoejpngdkcnnhaaNcArgs
namespace Go.Proofs.Ytoejpngdkcnnhaa
open Go.ChangeShapes Go.WideShapes Go.ChangeAt Go.RowKit Go.Joins Go.Deep

theorem wf_u64' {n : Int} (h : (Lit.int .u64 n).wf = true) : 0 ≤ n ∧ n < 18446744073709551616 := by
  simp [Lit.wf, IntKind.min, IntKind.max, IntKind.signed, IntKind.bits] at h
  omega
section
variable {H : Type} {enc : TypeId × Value → H} {w : World} {base : Nat} {spare : Nat → Bool} {held : Bool}

theorem nums_of_trod {t e : TypeId} {k : IntKind} (ht : Try.prog.underlying t = some (.slice e)) (he : Try.prog.underlying e = some (.int k)) (hc : Try.prog.cellsOf e = 1)
    {n : Nat} {v : Value} {y : DataW H × List MemPlace} (h : DataW.trod enc Try.prog w base spare held n t [v] = some y) :
    ∃ (a : Option Addr) (l : List Int) (cap : Nat), v = .slice a l.length cap ∧ l.length ≤ cap ∧ cap ≤ maxLen ∧ Rd w a (l.map fun n => .int k n) ∧ ∀ n ∈ l, (Lit.int k n).wf = true := by
  rcases open_ints ht he hc h with ⟨hcs, _⟩ | ⟨x, l, c, zs, hcs, _, hl, hm, hz, _, hcell, hwz⟩
  · simp at hcs
    exact ⟨none, [], 0, by rw [hcs]; rfl, Nat.le_refl _, by simp [maxLen], fun j v hj => by simp at hj, fun n hn => by cases hn⟩
  · simp at hcs
    have hzl : l ≤ zs.length := by rw [hz]; split <;> omega
    refine ⟨some x, zs.take l, c, ?_, ?_, hm, ?_, fun n hn => hwz n (List.mem_of_mem_take hn)⟩
    · rw [hcs, List.length_take, Nat.min_eq_left hzl]
    · rw [List.length_take]; omega
    · intro j v hj
      have hjl : j < l ∧ j < zs.length := by
        have := (List.getElem?_eq_some_iff.mp hj).1
        simp at this
        omega
      have hcj := hcell j hjl.2
      have h0 := hcell 0 (by omega)
      obtain ⟨b, off, spot⟩ := x
      have hspot : spot = none := by simpa [Addr.add] using World.cell?_spot h0
      subst hspot
      have hc' : w.cell? ⟨b, off + j, none⟩ = some (.int k (zs.getD j 0)) := by rw [← WideShapes.add_plain]; exact hcj
      have hv : v = .int k (zs.getD j 0) := by
        rw [List.getElem?_map, List.getElem?_take_of_lt hjl.1] at hj
        simp [hjl.2] at hj
        rw [← hj]; simp [hjl.2]
      refine ⟨b, off, rfl, ?_, ?_⟩
      · rcases Nat.lt_or_ge b w.heap.size with c | c
        · exact c
        · simp [World.cell?, Array.getElem?_eq_none c] at hc'
      · rw [hc', hv]
theorem ints_of_trod {n : Nat} {v : Value} {y : DataW H × List MemPlace} (h : DataW.trod enc Try.prog w base spare held n 25 [v] = some y) :
    ∃ (a : Option Addr) (l : List Int) (cap : Nat), v = .slice a l.length cap ∧ l.length ≤ cap ∧ cap ≤ maxLen ∧ Rd w a (l.map (.int .i64 ·)) := by
  obtain ⟨a, l, cap, h1, h2, h3, h4, _⟩ := nums_of_trod Try.underlying25 Try.underlying3 (by kernel_rfl) h
  exact ⟨a, l, cap, h1, h2, h3, h4⟩
set_option maxRecDepth 100000 in
/-- A step. -/
theorem open_nop {r : Reach} {b0 : Nat} {v : Value} {d : DataW H} {p : List MemPlace} (hv : Value.okWide Try.prog w r b0 52 v) (h : DataW.Trod enc Try.prog w base spare held 52 v d p) :
    ∃ (kd pt ln nn s : Int) (c : Bool) (a : Option Addr) (l : List (Int × Int)) (cap : Nat) (x : ByteArray) (W : Nat), v = .agg #[.int .i64 kd, .int .i64 pt, .int .i64 ln, .int .i64 nn, .int .i64 s, .bool c, .slice a l.length cap, .string x, .int .u64 (W : Int)] ∧ l.length ≤ cap ∧ cap ≤ maxLen ∧ x.size ≤ maxLen ∧ Rd w a (pc l) := by
  have hs := Try.underlying52
  have hC : Try.prog.cellsOf 52 = 9 := by kernel_rfl
  obtain ⟨cs, rfl, hsz⟩ := okWide_struct hs hv
  obtain ⟨l⟩ := cs
  match l, hsz.trans hC with
  | [c0, c1, c2, c3, c4, c5, c6, c7, c8], _ =>
    obtain ⟨fuel, hf⟩ := h
    obtain ⟨xs, n, _, _, _, hlen, hg⟩ := DataW.trod_struct hs hf
    have i3 : Try.prog.cellsOf 3 = 1 := by kernel_rfl
    have i4 : Try.prog.cellsOf 4 = 1 := by kernel_rfl
    have i5 : Try.prog.cellsOf 32 = 1 := by kernel_rfl
    have i9 : Try.prog.cellsOf 9 = 1 := by kernel_rfl
    have iP : Try.prog.cellsOf 34 = 4 := by kernel_rfl
    have iW : Try.prog.cellsOf 43 = 1 := by kernel_rfl
    match xs, hlen with
    | [y0, y1, y2, y3, y4, y5], _ =>
      have g0 := hg 0 _ rfl
      have g1 := hg 1 _ rfl
      have g2 := hg 2 _ rfl
      have g3 := hg 3 _ rfl
      have g4 := hg 4 _ rfl
      have g5 := hg 5 _ rfl
      simp [Value.cells, i3, iP, iW] at g0 g1 g2 g3 g4 g5
      obtain ⟨a0, e0, _, _⟩ := DataW.trod_int Try.underlying3 g0
      obtain ⟨a1, e1, _, _⟩ := DataW.trod_int Try.underlying3 g1
      obtain ⟨a2, e2, _, _⟩ := DataW.trod_int Try.underlying3 g2
      obtain ⟨a3, e3, _, _⟩ := DataW.trod_int Try.underlying3 g3
      obtain ⟨a8, e8, _, hw8⟩ := DataW.trod_int Try.underlying43 g5
      obtain ⟨ys, n2, _, hy, hlen2, hyl, hf2⟩ := DataW.trod_struct Try.underlying34 g4
      match ys, (show ys.length = 4 from hyl) with
      | [z0, z1, z2, z3], _ =>
        have k0 := hf2 0 _ rfl
        have k1 := hf2 1 _ rfl
        have k2 := hf2 2 _ rfl
        have k3 := hf2 3 _ rfl
        simp [i3, i4, i5, i9] at k0 k1 k2 k3
        obtain ⟨b0, f0, _, _⟩ := DataW.trod_int Try.underlying3 k0
        obtain ⟨b1, f1, _⟩ := DataW.trod_bool Try.underlying4 k1
        obtain ⟨b2, l2, cap2, f2, q1, q2, q3⟩ := tos_of_trod k2
        obtain ⟨b3, f3, _, hmx⟩ := DataW.trod_string Try.underlying9 k3
        have hw9 := wf_u64' hw8
        obtain ⟨W, hW⟩ := Int.eq_ofNat_of_zero_le hw9.1
        simp at e0 e1 e2 e3 e8 f0 f1 f3
        subst e0 e1 e2 e3 e8 f0 f1 f2 f3
        refine ⟨a0, a1, a2, a3, b0, b1, b2, l2, cap2, b3, W, ?_, q1, q2, hmx, q3⟩
        rw [hW]
end
end Go.Proofs.Ytoejpngdkcnnhaa

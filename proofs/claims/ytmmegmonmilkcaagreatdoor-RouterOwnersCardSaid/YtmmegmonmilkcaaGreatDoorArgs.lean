/-
  What the arguments of the laws read as.
-/
import Derived.Test.YtmmegmonmilkcaaGreatDoorBase
import Derived.Test.YtmmegmonmilkcaaGreatDoorRows
import Derived.ProofKit
import Derived.OpenShut
import Derived.Lib.SmallJoins
import Derived.Deep.Slices
import Derived.ChangeOld
namespace Go.Proofs.YtmmegmonmilkcaaGreatDoor
open Go.ChangeShapes Go.WideShapes Go.ChangeAt Go.RowKit Go.Joins

theorem Tryz.own : ownKnob Tryz.prog.godebug = none := by kernel_rfl
theorem Tryz.laidOut : laidOutB Tryz.prog = true := by kernel_rfl

section
variable {H : Type} {enc : TypeId × Value → H} {w : World} {base : Nat} {spare : Nat → Bool} {held : Bool}

/-- A slice of numbers that came in. -/
theorem nums_of_trod {t e : TypeId} {k : IntKind} (ht : Tryz.prog.underlying t = some (.slice e)) (he : Tryz.prog.underlying e = some (.int k)) (hc : Tryz.prog.cellsOf e = 1)
    {n : Nat} {v : Value} {y : DataW H × List MemPlace} (h : DataW.trod enc Tryz.prog w base spare held n t [v] = some y) :
    ∃ (a : Option Addr) (l : List Int) (cap : Nat), v = .slice a l.length cap ∧ l.length ≤ cap ∧ cap ≤ maxLen ∧ Rd w a (l.map fun n => .int k n) ∧ ∀ n ∈ l, (Lit.int k n).wf = true := by
  rcases open_ints ht he hc h with ⟨hcs, _⟩ | ⟨x, l, c, zs, hcs, _, hl, hm, hz, _, hcell, hwz⟩
  · simp at hcs
    exact ⟨none, [], 0, by rw [hcs]; rfl, Nat.le_refl _, by simp [maxLen], fun j v hj => by simp at hj, fun n hn => by cases hn⟩
  · simp at hcs
    have hzl : l ≤ zs.length := by rw [hz]; split <;> omega
    refine ⟨some x, zs.take l, c, ?_, ?_, hm, ?_, fun n hn => hwz n (List.mem_of_mem_take hn)⟩
    · rw [hcs, List.length_take, Nat.min_eq_left hzl]
    · rw [List.length_take]; omega
    · intro j v hj
      have hjl : j < l ∧ j < zs.length := by
        have := (List.getElem?_eq_some_iff.mp hj).1
        simp at this
        omega
      have hcj := hcell j hjl.2
      have h0 := hcell 0 (by omega)
      obtain ⟨b, off, spot⟩ := x
      have hspot : spot = none := by simpa [Addr.add] using World.cell?_spot h0
      subst hspot
      have hc' : w.cell? ⟨b, off + j, none⟩ = some (.int k (zs.getD j 0)) := by rw [← WideShapes.add_plain]; exact hcj
      have hv : v = .int k (zs.getD j 0) := by
        rw [List.getElem?_map, List.getElem?_take_of_lt hjl.1] at hj
        simp [hjl.2] at hj
        rw [← hj]; simp [hjl.2]
      refine ⟨b, off, rfl, ?_, ?_⟩
      · rcases Nat.lt_or_ge b w.heap.size with c | c
        · exact c
        · simp [World.cell?, Array.getElem?_eq_none c] at hc'
      · rw [hc', hv]

theorem wf_u32 {n : Int} (h : (Lit.int .u32 n).wf = true) : 0 ≤ n ∧ n < 4294967296 := by
  simp [Lit.wf, IntKind.min, IntKind.max, IntKind.signed, IntKind.bits] at h
  omega
theorem wf_u64 {n : Int} (h : (Lit.int .u64 n).wf = true) : 0 ≤ n ∧ n < 18446744073709551616 := by
  simp [Lit.wf, IntKind.min, IntKind.max, IntKind.signed, IntKind.bits] at h
  omega
theorem wf_u8 {n : Int} (h : (Lit.int .u8 n).wf = true) : 0 ≤ n ∧ n < 256 := by
  simp [Lit.wf, IntKind.min, IntKind.max, IntKind.signed, IntKind.bits] at h
  omega

theorem ints_of_trod {n : Nat} {v : Value} {y : DataW H × List MemPlace} (h : DataW.trod enc Tryz.prog w base spare held n 31 [v] = some y) :
    ∃ (a : Option Addr) (l : List Int) (cap : Nat), v = .slice a l.length cap ∧ l.length ≤ cap ∧ cap ≤ maxLen ∧ Rd w a (vi l) := by
  obtain ⟨a, l, cap, h1, h2, h3, h4, _⟩ := nums_of_trod Tryz.underlying31 Tryz.underlying3 (by kernel_rfl) h
  exact ⟨a, l, cap, h1, h2, h3, h4⟩

theorem u32s_of_trod {n : Nat} {v : Value} {y : DataW H × List MemPlace} (h : DataW.trod enc Tryz.prog w base spare held n 151 [v] = some y) :
    ∃ (a : Option Addr) (l : List Nat) (cap : Nat), v = .slice a l.length cap ∧ l.length ≤ cap ∧ cap ≤ maxLen ∧ Rd w a (vu l) ∧ small l := by
  obtain ⟨a, l, cap, h1, h2, h3, h4, h5⟩ := nums_of_trod Tryz.underlying151 Tryz.underlying154 (by kernel_rfl) h
  refine ⟨a, l.map Int.toNat, cap, by rw [h1, List.length_map], by rw [List.length_map]; exact h2, h3, ?_, ?_⟩
  · have : vu (l.map Int.toNat) = l.map fun n => .int .u32 n := by
      unfold vu
      rw [List.map_map]
      apply List.map_congr_left
      intro n hn
      have := wf_u32 (h5 n hn)
      show Value.int .u32 ((n.toNat : Nat) : Int) = _
      rw [Int.toNat_of_nonneg this.1]
    rw [this]; exact h4
  · intro v hv
    obtain ⟨n, hn, rfl⟩ := List.mem_map.mp hv
    have := wf_u32 (h5 n hn)
    omega

theorem okWide_array {t e : TypeId} {n : Nat} {P : Program} {r : Reach} {v : Value} (ht : P.underlying t = some (.array n e)) (h : Value.okWide P w r base t v) : ∃ cs, v = .agg cs ∧ cs.size = P.cellsOf t := by
  simp only [Value.okWide, ht] at h
  obtain ⟨cs, h1, h2, _⟩ := h
  exact ⟨cs, h1, h2⟩

set_option maxRecDepth 100000 in
theorem open_two {t e : TypeId} {k : IntKind} {r : Reach} {b0 : Nat} {v : Value} {d : DataW H} {p : List MemPlace} (ht : Tryz.prog.underlying t = some (.array 2 e)) (he : Tryz.prog.underlying e = some (.int k)) (hc : Tryz.prog.cellsOf e = 1) (hC : Tryz.prog.cellsOf t = 2)
    (hv : Value.okWide Tryz.prog w r b0 t v) (h : DataW.Trod enc Tryz.prog w base spare held t v d p) :
    ∃ a b : Int, v = .agg #[.int k a, .int k b] ∧ (Lit.int k a).wf = true ∧ (Lit.int k b).wf = true := by
  obtain ⟨cs, rfl, hsz⟩ := okWide_array ht hv
  obtain ⟨c0, c1, rfl⟩ := array2 (hsz.trans hC)
  obtain ⟨fuel, hf⟩ := h
  obtain ⟨xs, m, _, _, _, hl, hx⟩ := DataW.trod_array ht hf
  match xs, hl with
  | [y0, y1], _ =>
    have h0 := hx 0 (by omega)
    have h1 := hx 1 (by omega)
    simp [hc, Value.cells] at h0 h1
    obtain ⟨a, e0, _, wa⟩ := DataW.trod_int he h0
    obtain ⟨b, e1, _, wb⟩ := DataW.trod_int he h1
    simp at e0 e1
    subst e0 e1
    exact ⟨a, b, rfl, wa, wb⟩

set_option maxRecDepth 100000 in
theorem open_four {t e : TypeId} {k : IntKind} {r : Reach} {b0 : Nat} {v : Value} {d : DataW H} {p : List MemPlace} (ht : Tryz.prog.underlying t = some (.array 4 e)) (he : Tryz.prog.underlying e = some (.int k)) (hc : Tryz.prog.cellsOf e = 1) (hC : Tryz.prog.cellsOf t = 4)
    (hv : Value.okWide Tryz.prog w r b0 t v) (h : DataW.Trod enc Tryz.prog w base spare held t v d p) :
    ∃ a b c f : Int, v = .agg #[.int k a, .int k b, .int k c, .int k f] := by
  obtain ⟨cs, rfl, hsz⟩ := okWide_array ht hv
  obtain ⟨c0, c1, c2, c3, rfl⟩ := array4 (hsz.trans hC)
  obtain ⟨fuel, hf⟩ := h
  obtain ⟨xs, m, _, _, _, hl, hx⟩ := DataW.trod_array ht hf
  match xs, hl with
  | [y0, y1, y2, y3], _ =>
    have h0 := hx 0 (by omega)
    have h1 := hx 1 (by omega)
    have h2 := hx 2 (by omega)
    have h3 := hx 3 (by omega)
    simp [hc, Value.cells] at h0 h1 h2 h3
    obtain ⟨a, e0, _, _⟩ := DataW.trod_int he h0
    obtain ⟨b, e1, _, _⟩ := DataW.trod_int he h1
    obtain ⟨c, e2, _, _⟩ := DataW.trod_int he h2
    obtain ⟨f, e3, _, _⟩ := DataW.trod_int he h3
    simp at e0 e1 e2 e3
    subst e0 e1 e2 e3
    exact ⟨a, b, c, f, rfl⟩
end
end Go.Proofs.YtmmegmonmilkcaaGreatDoor

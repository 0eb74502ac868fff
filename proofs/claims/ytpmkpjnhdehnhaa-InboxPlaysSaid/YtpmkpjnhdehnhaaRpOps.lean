/-
  Peek, Publish, Free over a ring.
-/
import Derived.Test.YtpmkpjnhdehnhaaRpRep
import Derived.Test.YtpmkpjnhdehnhaaStage
import Derived.Deep.CutRange
namespace Go.Proofs.Ytpmkpjnhdehnhaa.RP
open Go.RowKit

theorem pow_dvd {m k : Nat} (hk : m = 2 ^ k) (hm : m ≤ 4096) : m ∣ 4294967296 := by
  have : k ≤ 32 := by
    rcases Nat.lt_or_ge 32 k with h | h
    · have := Nat.pow_le_pow_right (n := 2) (by omega) h; omega
    · exact h
  rw [hk, show 4294967296 = 2 ^ 32 from rfl]
  exact Nat.pow_dvd_pow 2 this

theorem mod32 {m k : Nat} (hk : m = 2 ^ k) (hm : m ≤ 4096) (c : Nat) : c % 4294967296 % m = c % m := Nat.mod_mod_of_dvd c (pow_dvd hk hm)

theorem dist {m o j j' : Nat} (h1 : j < m) (h2 : j' < m) (h : (o + j) % m = (o + j') % m) : j = j' := by
  rcases Nat.lt_or_ge j j' with g | g
  · have h3 := Nat.sub_mod_eq_zero_of_mod_eq h.symm
    rw [show o + j' - (o + j) = j' - j by omega, Nat.mod_eq_of_lt (by omega)] at h3
    omega
  · have h3 := Nat.sub_mod_eq_zero_of_mod_eq h
    rw [show o + j - (o + j') = j - j' by omega, Nat.mod_eq_of_lt (by omega)] at h3
    omega

theorem toNat_mod (c m : Nat) : (((c : Nat) : Int) % (m : Int)).toNat = c % m := rfl

section
variable {w : World} {b pb m : Nat} {s : RingSt}

theorem ring_place (h : RingAt w b pb m s) (hm : 0 < m) (c : Nat) (hc : c < 4294967296) :
    Calls Try.prog 42 #[.pointer (some ⟨b, 0, none⟩), .int .u32 c] w fun e w' => e = .returned (.pointer (some ⟨pb, c % m * 4, none⟩)) ∧ ∃ n, w' = w.drewN n := by
  obtain ⟨ok, ⟨t, ht⟩, h3⟩ := h
  rcases h3 with h3 | ⟨ps, ⟨k, hk⟩, hm2, _⟩
  · omega
  · have := place_any b pb m k c w (by omega) (by omega) hk hm2 (by rw [cell_of ht, pval_pos hm]; rfl)
    rw [toNat_mod] at this
    exact this

theorem RingAt.pos (h : RingAt w b pb m s) (hx : s.xs ≠ [] ∨ s.laid = true) : 0 < m := by
  obtain ⟨ok, ⟨t, ht⟩, h3⟩ := h
  rcases h3 with ⟨_, _, h1, h2⟩ | ⟨ps, ⟨k, hk⟩, hm2, _⟩
  · rcases hx with hx | hx
    · exact absurd h1 hx
    · rw [h2] at hx; cases hx
  · rw [hk]; exact Nat.two_pow_pos k

theorem RingAt.filled (h : RingAt w b pb m s) (hm : 0 < m) : ∃ ps, Filled w b pb m s ps := by
  obtain ⟨ok, ⟨t, ht⟩, h3⟩ := h
  rcases h3 with h3 | h3
  · omega
  · exact h3

theorem Filled.cell {ps : List Pk} (h : Filled w b pb m s ps) {q : Nat} {v : Pk} (e : ps[q]? = some v) : w.cell? ⟨pb, q * 4, none⟩ = some (.int .i64 v.s) ∧ w.cell? ⟨pb, q * 4 + 1, none⟩ = some (.int .i64 v.d) ∧ w.cell? ⟨pb, q * 4 + 2, none⟩ = some (.int .i64 v.q) ∧ w.cell? ⟨pb, q * 4 + 3, none⟩ = some (.string v.x) := by
  obtain ⟨_, _, _, hp, _⟩ := h
  rw [cell_of hp, cell_of hp, cell_of hp, cell_of hp]
  obtain ⟨h1, h2, h3, h4⟩ := cc_at ps q v e
  exact ⟨by simpa using h1, by simpa using h2, by simpa using h3, by simpa using h4⟩
/-- A block that is new and holds a cell. -/
theorem new_cell (w : World) (x : Pk) (t : TypeId) : (w.alloc (.cells ⟨pk4 x⟩ t)).cell? ⟨w.heap.size, 0, none⟩ = some (.int .i64 x.s) ∧ (w.alloc (.cells ⟨pk4 x⟩ t)).cell? ⟨w.heap.size, 1, none⟩ = some (.int .i64 x.d) ∧ (w.alloc (.cells ⟨pk4 x⟩ t)).cell? ⟨w.heap.size, 2, none⟩ = some (.int .i64 x.q) ∧ (w.alloc (.cells ⟨pk4 x⟩ t)).cell? ⟨w.heap.size, 3, none⟩ = some (.string x.x) :=
  ⟨(cell_of (heap_alloc_new w _) 0).trans rfl, (cell_of (heap_alloc_new w _) 1).trans rfl, (cell_of (heap_alloc_new w _) 2).trans rfl, (cell_of (heap_alloc_new w _) 3).trans rfl⟩
theorem below_dn {B : Nat} {x y : World} (h : Below B x y) (n : Nat) : Below B x (y.drewN n) := h.trans ⟨rfl, rfl, rfl, Nat.le_refl _, fun _ _ => rfl⟩
theorem RingAt.next {w' : World} (h : RingAt w b pb m s) (hb : Below w.heap.size w w') : RingAt w' b pb m s := h.below hb (Nat.le_refl _)
/-- Two new blocks for a cell each. -/
theorem two_new (w : World) (t : TypeId) (cs ds : Array Value) : ((w.alloc (.cells cs t)).alloc (.cells ds t)).heap[w.heap.size]? = some (.cells cs t (0, 0)) ∧ ((w.alloc (.cells cs t)).alloc (.cells ds t)).heap[w.heap.size + 1]? = some (.cells ds t (0, 0)) ∧ Below w.heap.size w ((w.alloc (.cells cs t)).alloc (.cells ds t)) := by
  refine ⟨?_, ?_, ((Below.refl _ _).alloc (Nat.le_refl _) _).alloc (by simp) _⟩
  · rw [Below.heap_alloc _ _ _ (by simp)]
    exact heap_alloc_new w _
  · have := heap_alloc_new (w.alloc (.cells cs t)) (.cells ds t)
    rwa [show (w.alloc (.cells cs t)).heap.size = w.heap.size + 1 by simp] at this
theorem ring_peek_some (h : RingAt w b pb m s) {x : Pk} {r : List Pk} (hx : s.xs = x :: r) :
    Calls Try.prog 36 #[.pointer (some ⟨b, 0, none⟩)] w fun e w' => e = .returned (.tuple #[pkv x, .int .i64 0]) ∧ Below w.heap.size w w' := by
  have hm := h.pos (Or.inl (by rw [hx]; simp))
  obtain ⟨q1, q2, q3⟩ := two_new w 33 #[.int .i64 0, .int .i64 0, .int .i64 0, .string ⟨#[]⟩] #[.int .i64 0, .int .i64 0, .int .i64 0, .string ⟨#[]⟩]
  have HR := h.next q3
  obtain ⟨ps, hf⟩ := HR.filled hm
  obtain ⟨hc0, hc1, hc2, hc3⟩ := hf.cell (q := s.o % m) (v := x) (by have := hf.2.2.2.2.2.2.1 0 (by rw [hx]; simp); rw [hx] at this; simpa using this)
  have L := ring_len HR
  have P := fun n => ring_place (HR.drewN n) hm s.o h.1.ho
  have hl : ((s.xs.length : Int) == 0) = false := by rw [hx]; simp; omega
  have h3 : ((w.alloc (.cells #[.int .i64 0, .int .i64 0, .int .i64 0, .string ⟨#[]⟩] 33)).alloc (.cells #[.int .i64 0, .int .i64 0, .int .i64 0, .string ⟨#[]⟩] 33)).cell? ⟨b, 3, none⟩ = some (.int .u32 s.o) := by
    obtain ⟨_, ⟨t, ht⟩, _⟩ := HR
    rw [cell_of ht]; rfl
  have y0 := cell_of q1 0
  have y1 := cell_of q1 1
  have y2 := cell_of q1 2
  have y3 := cell_of q1 3
  have z0 := frozen_of q1 0
  have z1 := frozen_of q1 1
  have z2 := frozen_of q1 2
  have z3 := frozen_of q1 3
  simp only [List.getElem?_toArray, List.getElem?_cons_zero, List.getElem?_cons_succ] at y0 y1 y2 y3
  have B0 : Hid (Below w.heap.size w ((w.alloc (.cells #[.int .i64 0, .int .i64 0, .int .i64 0, .string ⟨#[]⟩] 33)).alloc (.cells #[.int .i64 0, .int .i64 0, .int .i64 0, .string ⟨#[]⟩] 33))) := q3
  have Q1 : Hid (((w.alloc (.cells #[.int .i64 0, .int .i64 0, .int .i64 0, .string ⟨#[]⟩] 33)).alloc (.cells #[.int .i64 0, .int .i64 0, .int .i64 0, .string ⟨#[]⟩] 33)).heap[w.heap.size]? = some (.cells #[.int .i64 0, .int .i64 0, .int .i64 0, .string ⟨#[]⟩] 33 (0, 0))) := q1
  have YY : Hid (∀ v : World, v.heap[w.heap.size]? = some (.cells #[.int .i64 0, .int .i64 0, .int .i64 0, .string ⟨#[]⟩] 33 (0, 0)) → ((((v.setCell ⟨w.heap.size, 0, none⟩ (.int .i64 x.s)).setCell ⟨w.heap.size, 1, none⟩ (.int .i64 x.d)).setCell ⟨w.heap.size, 2, none⟩ (.int .i64 x.q)).setCell ⟨w.heap.size, 3, none⟩ (.string x.x)).cell? ⟨w.heap.size, 0, none⟩ = some (.int .i64 x.s) ∧ ((((v.setCell ⟨w.heap.size, 0, none⟩ (.int .i64 x.s)).setCell ⟨w.heap.size, 1, none⟩ (.int .i64 x.d)).setCell ⟨w.heap.size, 2, none⟩ (.int .i64 x.q)).setCell ⟨w.heap.size, 3, none⟩ (.string x.x)).cell? ⟨w.heap.size, 1, none⟩ = some (.int .i64 x.d) ∧ ((((v.setCell ⟨w.heap.size, 0, none⟩ (.int .i64 x.s)).setCell ⟨w.heap.size, 1, none⟩ (.int .i64 x.d)).setCell ⟨w.heap.size, 2, none⟩ (.int .i64 x.q)).setCell ⟨w.heap.size, 3, none⟩ (.string x.x)).cell? ⟨w.heap.size, 2, none⟩ = some (.int .i64 x.q) ∧ ((((v.setCell ⟨w.heap.size, 0, none⟩ (.int .i64 x.s)).setCell ⟨w.heap.size, 1, none⟩ (.int .i64 x.d)).setCell ⟨w.heap.size, 2, none⟩ (.int .i64 x.q)).setCell ⟨w.heap.size, 3, none⟩ (.string x.x)).cell? ⟨w.heap.size, 3, none⟩ = some (.string x.x)) := show _ from fun v hv => by
    have := heap_set (heap_set (heap_set (heap_set hv 0 (.int .i64 x.s)) 1 (.int .i64 x.d)) 2 (.int .i64 x.q)) 3 (.string x.x)
    exact ⟨(cell_of this 0).trans (by simp), (cell_of this 1).trans (by simp), (cell_of this 2).trans (by simp), (cell_of this 3).trans (by simp)⟩
  obtain ⟨q, hq⟩ : ∃ q, s.o % m * 4 = q := ⟨_, rfl⟩
  rw [hq] at hc0 hc1 hc2 hc3
  simp only [hq] at P
  have hl' : Hid (((s.xs.length : Int) == 0) = false) := hl
  clear hl hq hx hf q1 q2 q3 HR h hm
  obtain ⟨l, hl2⟩ : ∃ l : Int, l = s.xs.length := ⟨_, rfl⟩
  rw [← hl2] at L hl'
  have hl3 : (l == 0) = false := hl'
  clear hl2 hl'
  generalize (s.o : Int) = o at *
  obtain ⟨xa, xb, xc, xd⟩ := x
  simp only at hc0 hc1 hc2 hc3 YY
  go_enter Try.func36, Try.ntmps36
  go_upto_region 2 with fail
  generalize (w.alloc (.cells #[.int .i64 0, .int .i64 0, .int .i64 0, .string ⟨#[]⟩] 33)).alloc (.cells #[.int .i64 0, .int .i64 0, .int .i64 0, .string ⟨#[]⟩] 33) = v at *
  go_wp2_with (first
    | (go_at_call 37; refine L.mono ?_; rintro e w' ⟨rfl, n, rfl⟩)
    | (go_at_call 42; refine (P _).mono ?_; rintro e w' ⟨rfl, n2, rfl⟩))
  obtain ⟨Y0, Y1, Y2, Y3⟩ := YY.out (v.drewN (n + n2)) Q1.out
  refine bodyPost_ret (v := .tuple #[.agg #[.int .i64 xa, .int .i64 xb, .int .i64 xc, .string xd], .int .i64 0]) (by simp [results, Try.results36, go_sem, Y0, Y1, Y2, Y3]; try rfl) rfl ⟨rfl, ((((below_dn B0.out _).setCell (Nat.le_refl _) _).setCell (Nat.le_refl _) _).setCell (Nat.le_refl _) _).setCell (Nat.le_refl _) _⟩
theorem ring_peek_none (h : RingAt w b pb m s) (hx : s.xs = []) :
    Calls Try.prog 36 #[.pointer (some ⟨b, 0, none⟩)] w fun e w' => e = .returned (.tuple #[pkv zc, .int .i64 8]) ∧ Below w.heap.size w w' := by
  obtain ⟨q1, q2, q3⟩ := two_new w 33 #[.int .i64 0, .int .i64 0, .int .i64 0, .string ⟨#[]⟩] #[.int .i64 0, .int .i64 0, .int .i64 0, .string ⟨#[]⟩]
  have L := ring_len (h.next q3)
  rw [hx] at L
  have y0 := cell_of q1 0
  have y1 := cell_of q1 1
  have y2 := cell_of q1 2
  have y3 := cell_of q1 3
  have z0 := frozen_of q1 0
  have z1 := frozen_of q1 1
  have z2 := frozen_of q1 2
  have z3 := frozen_of q1 3
  have x0 := cell_of q2 0
  have x1 := cell_of q2 1
  have x2 := cell_of q2 2
  have x3 := cell_of q2 3
  simp only [List.getElem?_toArray, List.getElem?_cons_zero, List.getElem?_cons_succ] at y0 y1 y2 y3 x0 x1 x2 x3
  have B0 : Hid (Below w.heap.size w ((w.alloc (.cells #[.int .i64 0, .int .i64 0, .int .i64 0, .string ⟨#[]⟩] 33)).alloc (.cells #[.int .i64 0, .int .i64 0, .int .i64 0, .string ⟨#[]⟩] 33))) := q3
  have YY : Hid (∀ v : World, v.heap[w.heap.size]? = some (.cells #[.int .i64 0, .int .i64 0, .int .i64 0, .string ⟨#[]⟩] 33 (0, 0)) → ((((v.setCell ⟨w.heap.size, 0, none⟩ (.int .i64 0)).setCell ⟨w.heap.size, 1, none⟩ (.int .i64 0)).setCell ⟨w.heap.size, 2, none⟩ (.int .i64 0)).setCell ⟨w.heap.size, 3, none⟩ (.string ⟨#[]⟩)).cell? ⟨w.heap.size, 0, none⟩ = some (.int .i64 0) ∧ ((((v.setCell ⟨w.heap.size, 0, none⟩ (.int .i64 0)).setCell ⟨w.heap.size, 1, none⟩ (.int .i64 0)).setCell ⟨w.heap.size, 2, none⟩ (.int .i64 0)).setCell ⟨w.heap.size, 3, none⟩ (.string ⟨#[]⟩)).cell? ⟨w.heap.size, 1, none⟩ = some (.int .i64 0) ∧ ((((v.setCell ⟨w.heap.size, 0, none⟩ (.int .i64 0)).setCell ⟨w.heap.size, 1, none⟩ (.int .i64 0)).setCell ⟨w.heap.size, 2, none⟩ (.int .i64 0)).setCell ⟨w.heap.size, 3, none⟩ (.string ⟨#[]⟩)).cell? ⟨w.heap.size, 2, none⟩ = some (.int .i64 0) ∧ ((((v.setCell ⟨w.heap.size, 0, none⟩ (.int .i64 0)).setCell ⟨w.heap.size, 1, none⟩ (.int .i64 0)).setCell ⟨w.heap.size, 2, none⟩ (.int .i64 0)).setCell ⟨w.heap.size, 3, none⟩ (.string ⟨#[]⟩)).cell? ⟨w.heap.size, 3, none⟩ = some (.string ⟨#[]⟩)) := show _ from fun v hv => by
    have := heap_set (heap_set (heap_set (heap_set hv 0 (.int .i64 0)) 1 (.int .i64 0)) 2 (.int .i64 0)) 3 (.string ⟨#[]⟩)
    exact ⟨(cell_of this 0).trans (by simp), (cell_of this 1).trans (by simp), (cell_of this 2).trans (by simp), (cell_of this 3).trans (by simp)⟩
  have Q1 : Hid (((w.alloc (.cells #[.int .i64 0, .int .i64 0, .int .i64 0, .string ⟨#[]⟩] 33)).alloc (.cells #[.int .i64 0, .int .i64 0, .int .i64 0, .string ⟨#[]⟩] 33)).heap[w.heap.size]? = some (.cells #[.int .i64 0, .int .i64 0, .int .i64 0, .string ⟨#[]⟩] 33 (0, 0))) := q1
  clear hx h q1 q2 q3
  simp only [zc, pkv]
  go_enter Try.func36, Try.ntmps36
  go_upto_region 2 with fail
  generalize (w.alloc (.cells #[.int .i64 0, .int .i64 0, .int .i64 0, .string ⟨#[]⟩] 33)).alloc (.cells #[.int .i64 0, .int .i64 0, .int .i64 0, .string ⟨#[]⟩] 33) = v at *
  go_wp2_with (go_at_call 37; refine L.mono ?_; rintro e w' ⟨rfl, n, rfl⟩)
  obtain ⟨Y0, Y1, Y2, Y3⟩ := YY.out (v.drewN n) Q1.out
  refine bodyPost_ret (v := .tuple #[.agg #[.int .i64 0, .int .i64 0, .int .i64 0, .string ⟨#[]⟩], .int .i64 8]) (by simp [results, Try.results36, go_sem, Y0, Y1, Y2, Y3]; try rfl) rfl ⟨rfl, ((((below_dn B0.out _).setCell (Nat.le_refl _) _).setCell (Nat.le_refl _) _).setCell (Nat.le_refl _) _).setCell (Nat.le_refl _) _⟩

theorem ring_publish_none (h : RingAt w b pb m s) (hx : s.laid = false) :
    Calls Try.prog 40 #[.pointer (some ⟨b, 0, none⟩)] w fun e w' => e = .returned (.int .i64 13) ∧ w = w' := by
  have h4 : w.cell? ⟨b, 4, none⟩ = some (.bool false) := by obtain ⟨_, ⟨t, ht⟩, _⟩ := h; rw [cell_of ht, hx]; rfl
  clear hx h
  go_enter Try.func40, Try.ntmps40
  go_wp2
  go_ret
  exact ⟨rfl, rfl⟩

def RingSt.published (s : RingSt) : RingSt := { s with i := (s.i + 1) % 4294967296, laid := false, xs := s.xs ++ [s.lv] }

theorem at_published (h : RingAt w b pb m s) (hx : s.laid = true) : RingAt ((w.setCell ⟨b, 4, none⟩ (.bool false)).setCell ⟨b, 2, none⟩ (.int .u32 (((s.i : Int) + 1) % 4294967296))) b pb m s.published := by
  have hm := h.pos (Or.inr hx)
  obtain ⟨ps, ⟨k, hk⟩, hm2, hne, hp, hpl, hcap, hxs, hlv⟩ := h.filled hm
  obtain ⟨ok, ⟨t, ht⟩, h3⟩ := h
  obtain ⟨o1, o2, o3, o4⟩ := ok
  simp only [one, hx, if_true] at o4 hcap
  refine ⟨⟨?_, o2, ?_, ?_⟩, ⟨t, ?_⟩, Or.inr ⟨ps, ⟨k, hk⟩, hm2, hne, ?_, hpl, ?_, ?_, ?_⟩⟩
  · simp [RingSt.published]; omega
  · simp [RingSt.published]; omega
  · simp [RingSt.published, one]; omega
  · rw [heap_set (heap_set ht 4 _) 2 _]
    simp [RingSt.published]
  · rw [heap_set_ne _ hne, heap_set_ne _ hne, hp]
  · simp [RingSt.published, one]; omega
  · intro j hj
    simp only [RingSt.published, List.length_append, List.length_singleton] at hj ⊢
    rcases Nat.lt_or_ge j s.xs.length with g | g
    · rw [List.getElem?_append_left g]; exact hxs j g
    · have e : j = s.xs.length := by omega
      subst e
      rw [← mod32 hk hm2, o3, hlv hx]; simp
  · intro c; simp [RingSt.published] at c

theorem ring_publish_some (h : RingAt w b pb m s) (hx : s.laid = true) :
    Calls Try.prog 40 #[.pointer (some ⟨b, 0, none⟩)] w fun e w' => e = .returned (.int .i64 0) ∧ RingAt w' b pb m s.published ∧ Fr b pb w w' := by
  have hA := at_published h hx
  obtain ⟨_, ⟨t, ht⟩, _⟩ := h
  have h4 : w.cell? ⟨b, 4, none⟩ = some (.bool true) := by rw [cell_of ht, hx]; rfl
  have h2 : w.cell? ⟨b, 2, none⟩ = some (.int .u32 s.i) := by rw [cell_of ht]; rfl
  have f2 := frozen_of ht 2
  have f4 := frozen_of ht 4
  clear ht hx
  go_enter Try.func40, Try.ntmps40
  go_wp2
  go_ret
  exact ⟨rfl, hA, ((Fr.refl _ _ _).set0 _ _).set0 _ _⟩

theorem ring_free_none (h : RingAt w b pb m s) (hx : s.xs = []) :
    Calls Try.prog 41 #[.pointer (some ⟨b, 0, none⟩)] w fun e w' => e = .returned (.int .i64 8) ∧ ∃ n, w' = w.drewN n := by
  have L := ring_len h
  rw [hx] at L
  clear hx h
  go_enter Try.func41, Try.ntmps41
  go_wp2_with (first
      | (go_at_call 37; refine L.mono ?_; rintro e w' ⟨rfl, n, rfl⟩))
  go_ret
  exact ⟨rfl, _, rfl⟩

def RingSt.freed (s : RingSt) : RingSt := { s with o := (s.o + 1) % 4294967296, xs := s.xs.tail }

theorem at_freed (h : RingAt w b pb m s) {x : Pk} {r : List Pk} (hx : s.xs = x :: r) :
    RingAt (((((w.setCell ⟨pb, s.o % m * 4, none⟩ (.int .i64 0)).setCell ⟨pb, s.o % m * 4 + 1, none⟩ (.int .i64 0)).setCell ⟨pb, s.o % m * 4 + 2, none⟩ (.int .i64 0)).setCell ⟨pb, s.o % m * 4 + 3, none⟩ (.string ⟨#[]⟩)).setCell ⟨b, 3, none⟩ (.int .u32 (((s.o : Int) + 1) % 4294967296))) b pb m s.freed := by
  have hm := h.pos (Or.inl (by rw [hx]; simp))
  obtain ⟨ps, ⟨k, hk⟩, hm2, hne, hp, hpl, hcap, hxs, hlv⟩ := h.filled hm
  obtain ⟨ok, ⟨t, ht⟩, h3⟩ := h
  obtain ⟨o1, o2, o3, o4⟩ := ok
  rw [hx] at o3 o4 hcap hxs
  simp only [List.length_cons] at o3 o4 hcap hxs
  refine ⟨⟨o1, ?_, ?_, ?_⟩, ⟨t, ?_⟩, Or.inr ⟨ps.set (s.o % m) zc, ⟨k, hk⟩, hm2, hne, ?_, by simpa using hpl, ?_, ?_, ?_⟩⟩
  · simp [RingSt.freed]; omega
  · simp [RingSt.freed, hx]; omega
  · simp [RingSt.freed, hx]; omega
  · refine (heap_set (c := #[.int .i64 s.room, pval pb m, .int .u32 (s.i : Int), .int .u32 (s.o : Int), .bool s.laid]) (t := t) (fr := (0, 0)) ((heap_set2_ne (s.o % m) zc hne.symm).trans ht) 3 _).trans ?_
    simp [RingSt.freed]
  · rw [heap_set_ne _ hne]
    exact heap_set2 hp (s.o % m) zc
  · simp [RingSt.freed, hx]; omega
  · intro j hj
    simp only [RingSt.freed, hx, List.tail_cons] at hj ⊢
    have e : ((s.o + 1) % 4294967296 + j) % m = (s.o + (j + 1)) % m := by
      rw [Nat.add_mod, mod32 hk hm2, ← Nat.add_mod]; congr 1; omega
    have e2 := hxs (j + 1) (by omega)
    rw [e, List.getElem?_set_ne, e2]
    · simp
    · intro c
      have := dist (m := m) (o := s.o) (j := 0) (j' := j + 1) hm (by omega) (by simpa using c)
      omega
  · intro c
    have c' : s.laid = true := c
    simp only [one, c', if_true] at hcap
    rw [List.getElem?_set_ne]
    · exact hlv c'
    · intro d
      have e : s.i % m = (s.o + (r.length + 1)) % m := by rw [← o3, mod32 hk hm2]
      have d' : s.o % m = s.i % m := d
      rw [e] at d'
      have := dist (m := m) (o := s.o) (j := 0) (j' := r.length + 1) hm (by omega) (by simpa using d')
      omega

set_option maxHeartbeats 2000000 in
theorem ring_free_some (h : RingAt w b pb m s) {x : Pk} {r : List Pk} (hx : s.xs = x :: r) :
    Calls Try.prog 41 #[.pointer (some ⟨b, 0, none⟩)] w fun e w' => e = .returned (.int .i64 0) ∧ RingAt w' b pb m s.freed ∧ Fr b pb w w' := by
  have hm := h.pos (Or.inl (by rw [hx]; simp))
  have L := ring_len h
  have hl : ((s.xs.length : Int) == 0) = false := by rw [hx]; simp; omega
  have hne : pb ≠ b := by
    obtain ⟨ps, hf⟩ := h.filled hm
    exact hf.2.2.1
  have hlt := h.lt
  have HA : Hid (∀ V, Below w.heap.size w V → RingAt V b pb m s) := show _ from fun V hV => h.next hV
  have HAF : Hid (∀ V, RingAt V b pb m s → RingAt (((((V.setCell ⟨pb, s.o % m * 4, none⟩ (.int .i64 0)).setCell ⟨pb, s.o % m * 4 + 1, none⟩ (.int .i64 0)).setCell ⟨pb, s.o % m * 4 + 2, none⟩ (.int .i64 0)).setCell ⟨pb, s.o % m * 4 + 3, none⟩ (.string ⟨#[]⟩)).setCell ⟨b, 3, none⟩ (.int .u32 (((s.o : Int) + 1) % 4294967296))) b pb m s.freed) := show _ from fun V hV => at_freed hV hx
  have HC : Hid (∀ V, RingAt V b pb m s → V.cell? ⟨b, 3, none⟩ = some (.int .u32 s.o) ∧ V.frozen? ⟨b, 3, none⟩ = false ∧ (∃ y, V.cell? ⟨pb, s.o % m * 4, none⟩ = some y) ∧ (∃ y, V.cell? ⟨pb, s.o % m * 4 + 1, none⟩ = some y) ∧ (∃ y, V.cell? ⟨pb, s.o % m * 4 + 2, none⟩ = some y) ∧ (∃ y, V.cell? ⟨pb, s.o % m * 4 + 3, none⟩ = some y) ∧ V.frozen? ⟨pb, s.o % m * 4, none⟩ = false ∧ V.frozen? ⟨pb, s.o % m * 4 + 1, none⟩ = false ∧ V.frozen? ⟨pb, s.o % m * 4 + 2, none⟩ = false ∧ V.frozen? ⟨pb, s.o % m * 4 + 3, none⟩ = false) := show _ from fun V hV => by
    obtain ⟨ps, hf⟩ := hV.filled hm
    obtain ⟨hc0, hc1, hc2, hc3⟩ := hf.cell (q := s.o % m) (v := x) (by have := hf.2.2.2.2.2.2.1 0 (by rw [hx]; simp); rw [hx] at this; simpa using this)
    obtain ⟨_, ⟨t, ht⟩, _⟩ := hV
    exact ⟨by rw [cell_of ht]; rfl, frozen_of ht 3, ⟨_, hc0⟩, ⟨_, hc1⟩, ⟨_, hc2⟩, ⟨_, hc3⟩, frozen_of hf.2.2.2.1 _, frozen_of hf.2.2.2.1 _, frozen_of hf.2.2.2.1 _, frozen_of hf.2.2.2.1 _⟩
  have HP : Hid (∀ V, RingAt V b pb m s → Calls Try.prog 42 #[.pointer (some ⟨b, 0, none⟩), .int .u32 s.o] V fun e w' => e = .returned (.pointer (some ⟨pb, s.o % m * 4, none⟩)) ∧ ∃ n, w' = V.drewN n) := show _ from fun V hV => ring_place hV hm s.o h.1.ho
  obtain ⟨q, hq⟩ : ∃ q, s.o % m * 4 = q := ⟨_, rfl⟩
  rw [hq] at HAF HC HP
  clear hq hx h hm
  have hl' : Hid (((s.xs.length : Int) == 0) = false) := hl
  clear hl
  obtain ⟨l, hl2⟩ : ∃ l : Int, l = s.xs.length := ⟨_, rfl⟩
  rw [← hl2] at L hl'
  have hl3 : (l == 0) = false := hl'
  clear hl2 hl'
  generalize hsf : s.freed = sf at *
  clear hsf
  have ho : (0 : Int) ≤ (s.o : Int) := by omega
  generalize (s.o : Int) = o at *
  go_enter Try.func41, Try.ntmps41
  go_upto_region 6 with (go_at_call 37; refine L.mono ?_; rintro e w' ⟨rfl, n, rfl⟩)
  have B0 : Hid (Below w.heap.size w ((w.drewN n).alloc (.cells #[.int .i64 0, .int .i64 0, .int .i64 0, .string ⟨#[]⟩] 33))) := (below_dn (Below.refl _ _) n).alloc (Nat.le_refl _) _
  have N0 : Hid (((w.drewN n).alloc (.cells #[.int .i64 0, .int .i64 0, .int .i64 0, .string ⟨#[]⟩] 33)).heap[w.heap.size]? = some (.cells #[.int .i64 0, .int .i64 0, .int .i64 0, .string ⟨#[]⟩] 33 (0, 0))) := heap_alloc_new (w.drewN n) _
  clear L
  generalize (w.drewN n).alloc (.cells #[.int .i64 0, .int .i64 0, .int .i64 0, .string ⟨#[]⟩] 33) = v at *
  have SS : Hid (∀ n, (v.drewN n).cell? ⟨b, 3, none⟩ = some (.int .u32 o) ∧ (v.drewN n).cell? ⟨w.heap.size, 0, none⟩ = some (.int .i64 0) ∧ (v.drewN n).cell? ⟨w.heap.size, 1, none⟩ = some (.int .i64 0) ∧ (v.drewN n).cell? ⟨w.heap.size, 2, none⟩ = some (.int .i64 0) ∧ (v.drewN n).cell? ⟨w.heap.size, 3, none⟩ = some (.string ⟨#[]⟩)) := show _ from fun n => ⟨(HC.out _ (HA.out _ (below_dn B0.out n))).1, (cell_of N0.out 0).trans rfl, (cell_of N0.out 1).trans rfl, (cell_of N0.out 2).trans rfl, (cell_of N0.out 3).trans rfl⟩
  have S0 : (fun V : World => V.cell? ⟨b, 3, none⟩ = some (.int .u32 o) ∧ V.cell? ⟨w.heap.size, 0, none⟩ = some (.int .i64 0) ∧ V.cell? ⟨w.heap.size, 1, none⟩ = some (.int .i64 0) ∧ V.cell? ⟨w.heap.size, 2, none⟩ = some (.int .i64 0) ∧ V.cell? ⟨w.heap.size, 3, none⟩ = some (.string ⟨#[]⟩)) v.drew := SS.out 1
  refine wp_region_G (fun V : World => V.cell? ⟨b, 3, none⟩ = some (.int .u32 o) ∧ V.cell? ⟨w.heap.size, 0, none⟩ = some (.int .i64 0) ∧ V.cell? ⟨w.heap.size, 1, none⟩ = some (.int .i64 0) ∧ V.cell? ⟨w.heap.size, 2, none⟩ = some (.int .i64 0) ∧ V.cell? ⟨w.heap.size, 3, none⟩ = some (.string ⟨#[]⟩)) 8 (by kernel_rfl) ?_
  refine wpAnyG_take [8] (some 11) (i := 0) (v := ?v0) rfl rfl (by kernel_rfl) (by kernel_rfl) (by kernel_rfl) (by kernel_rfl) (fun _ _ _ h => h) (Or.inl ⟨by rfl, ?y0⟩) S0 ?r0
  case y0 => (intro V hSV; obtain ⟨d0, d1, d2, d3, d4⟩ := hSV; go_simp; try with_reducible rfl)
  simp only [Act.put, List.setIfInBounds_toArray, List.set_cons_zero, List.set_cons_succ]
  refine wpAnyG_take [8] (some 12) (i := 1) (v := ?v1) rfl rfl (by kernel_rfl) (by kernel_rfl) (by kernel_rfl) (by kernel_rfl) (fun _ _ _ h => h) (Or.inl ⟨by rfl, ?y1⟩) S0 ?r1
  case y1 => (intro V hSV; obtain ⟨d0, d1, d2, d3, d4⟩ := hSV; go_simp; try with_reducible rfl)
  simp only [Act.put, List.setIfInBounds_toArray, List.set_cons_zero, List.set_cons_succ]
  refine wpAnyG_take [8] (some 13) (i := 2) (v := ?v2) rfl rfl (by kernel_rfl) (by kernel_rfl) (by kernel_rfl) (by kernel_rfl) (fun _ _ _ h => h) (Or.inl ⟨by rfl, ?y2⟩) S0 ?r2
  case y2 => (intro V hSV; obtain ⟨d0, d1, d2, d3, d4⟩ := hSV; go_simp; try with_reducible rfl)
  simp only [Act.put, List.setIfInBounds_toArray, List.set_cons_zero, List.set_cons_succ]
  refine wpAnyG_take [8] (some 14) (i := 3) (v := ?v3) rfl rfl (by kernel_rfl) (by kernel_rfl) (by kernel_rfl) (by kernel_rfl) (fun _ _ _ h => h) (Or.inl ⟨by rfl, ?y3⟩) S0 ?r3
  case y3 => (intro V hSV; obtain ⟨d0, d1, d2, d3, d4⟩ := hSV; go_simp; try with_reducible rfl)
  simp only [Act.put, List.setIfInBounds_toArray, List.set_cons_zero, List.set_cons_succ]
  refine wpAnyG_take [8] (some 15) (i := 4) (v := ?v4) rfl rfl (by kernel_rfl) (by kernel_rfl) (by kernel_rfl) (by kernel_rfl) (fun _ _ _ h => h) (Or.inl ⟨by rfl, ?y4⟩) S0 ?r4
  case y4 => (intro V hSV; obtain ⟨d0, d1, d2, d3, d4⟩ := hSV; go_simp; try with_reducible rfl)
  simp only [Act.put, List.setIfInBounds_toArray, List.set_cons_zero, List.set_cons_succ]
  refine wpAnyG_take [8] (some 17) (i := 6) (v := ?v6) rfl rfl (by kernel_rfl) (by kernel_rfl) (by kernel_rfl) (by kernel_rfl) (fun _ _ _ h => h) (Or.inl ⟨by rfl, ?y6⟩) S0 ?r6
  case y6 => (intro V hSV; obtain ⟨d0, d1, d2, d3, d4⟩ := hSV; go_simp; try with_reducible rfl)
  simp only [Act.put, List.setIfInBounds_toArray, List.set_cons_zero, List.set_cons_succ]
  refine wpAnyG_one (i := 5) (by kernel_rfl) rfl (fun K hK => ?_)
  go_simp
  refine (HP.out (v.drewN 1) (HA.out _ (below_dn B0.out 1))).mono ?_
  rintro e w' ⟨rfl, n2, rfl⟩
  have B2 : Hid (Below w.heap.size w ((v.drewN 1).drewN n2)) := below_dn (below_dn B0.out 1) n2
  have S2 : (fun V : World => V.cell? ⟨b, 3, none⟩ = some (.int .u32 o) ∧ V.cell? ⟨w.heap.size, 0, none⟩ = some (.int .i64 0) ∧ V.cell? ⟨w.heap.size, 1, none⟩ = some (.int .i64 0) ∧ V.cell? ⟨w.heap.size, 2, none⟩ = some (.int .i64 0) ∧ V.cell? ⟨w.heap.size, 3, none⟩ = some (.string ⟨#[]⟩)) ((v.drewN 1).drewN n2) := ⟨(HC.out _ (HA.out _ B2.out)).1, (cell_of N0.out 0).trans rfl, (cell_of N0.out 1).trans rfl, (cell_of N0.out 2).trans rfl, (cell_of N0.out 3).trans rfl⟩
  refine hK.out _ _ (Or.inr S2) ?_
  clear hK K S0 SS
  generalize (v.drewN 1).drewN n2 = u at *
  refine wpAnyG_one (i := 7) (by kernel_rfl) rfl (fun K hK => ?_)
  go_simp
  refine hK.out _ _ (Or.inr S2) ?_
  clear hK K
  obtain ⟨g3, f3, ⟨y0, g0⟩, ⟨y1, g1⟩, ⟨y2, g2⟩, ⟨y3, g4⟩, f0, f1, f2, f4⟩ := HC.out u (HA.out u B2.out)
  refine wpAnyG_one (i := 8) (by kernel_rfl) rfl (fun K hK => ?_)
  go_simp
  refine hK.out _ _ (Or.inl (by kernel_rfl)) ?_
  clear hK K S2
  refine wpAnyG_done (by kernel_rfl) ?_ _
  go_wp2
  go_ret
  exact ⟨rfl, HAF.out u (HA.out u B2.out), ((((((Fr.ofBelow B2.out (Nat.le_refl _) : Fr b pb w u).set1 _ _).set1 _ _).set1 _ _).set1 _ _).set0 _ _)⟩

end
end Go.Proofs.Ytpmkpjnhdehnhaa.RP

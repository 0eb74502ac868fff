/-
  What a law's loop keeps: rows of truths, through what turns the objects; a row's function asked.
-/
import Derived.Test.YtaeoglfpcbehdaaFLives
namespace Go.Proofs.Ytaeoglfpcbehdaa
open Go.RowKit

/-- A block of two numbers. -/
def Nb (w : World) (b : Nat) : Prop := ∃ n m t, Bk w b #[.int .i64 n, .int .i64 m] t
theorem Fb.nb {w : World} {b N l : Nat} (h : Fb w b N l) : Nb w b := by obtain ⟨_, n, _, h⟩ := h; exact ⟨_, _, _, h⟩
/-- A block of numbers has turned: what is no number reads as it did. -/
theorem cell_gb {w w' : World} {b g k : Nat} {x : Value} (hb : Nb w b) (h : Gb b w w') (hg : g < w.heap.size) (hx : w.cell? ⟨g, k, none⟩ = some x) (hne : ∀ n, x ≠ .int .i64 n) : w'.cell? ⟨g, k, none⟩ = some x := by
  have hgb : ¬ some g = some b := by
    intro e
    obtain rfl := Option.some.inj e
    obtain ⟨n, m, t, hb⟩ := hb
    rw [hb.cell k] at hx
    match k, hx with
    | 0, hx => simp at hx; exact hne _ hx.symm
    | 1, hx => simp at hx; exact hne _ hx.symm
    | k + 2, hx => simp at hx
  rw [World.cell?_of_block (h.out.block g hg hgb)]
  exact hx
theorem Rd.gb {w w' : World} {b : Nat} {a : Option Addr} {vs : List Value} (h : Rd w a vs) (hb : Nb w b) (hg : Gb b w w') (hne : ∀ v ∈ vs, ∀ n, v ≠ .int .i64 n) : Rd w' a vs := fun j v hj => by
  obtain ⟨g, o, e, hlt, hc⟩ := h j v hj
  exact ⟨g, o, e, Nat.lt_of_lt_of_le hlt hg.size, cell_gb hb hg hlt hc (hne v (List.mem_of_getElem? hj))⟩
theorem vb_no (L : List Bool) : ∀ v ∈ vb L, ∀ n, v ≠ .int .i64 n := fun v hv n e => by
  obtain ⟨x, _, rfl⟩ := List.mem_map.1 hv
  cases e
theorem brs_no (R : List BR) : ∀ v ∈ brs R, ∀ n, v ≠ .int .i64 n := fun v hv n e => by
  obtain ⟨x, _, rfl⟩ := List.mem_map.1 hv
  cases e
/-- Rows of at most 20 truths each. -/
def Rws (w : World) (a : Option Addr) (F : List BR) : Prop := Rd w a (brs F) ∧ ∀ r ∈ F, BRok w r ∧ r.l.length ≤ 20
theorem Rws.below {w w' : World} {a : Option Addr} {F : List BR} (h : Rws w a F) (b : Below w.heap.size w w') : Rws w' a F := ⟨h.1.below b, fun r hr => ⟨(h.2 r hr).1.below b, (h.2 r hr).2⟩⟩
theorem Rws.gbN {w w' : World} {a : Option Addr} {F : List BR} {b : Nat} (h : Rws w a F) (hb : Nb w b) (hg : Gb b w w') : Rws w' a F :=
  ⟨h.1.gb hb hg (brs_no F), fun r hr => ⟨⟨(h.2 r hr).1.1.gb hb hg (vb_no _), (h.2 r hr).1.2⟩, (h.2 r hr).2⟩⟩
theorem Rws.gb {w w' : World} {a : Option Addr} {F : List BR} {b N l : Nat} (h : Rws w a F) (hb : Fb w b N l) (hg : Gb b w w') : Rws w' a F := h.gbN hb.nb hg
theorem Rws.gbr {w w' : World} {a : Option Addr} {F : List BR} {b N l : Nat} {t : TypeId} (h : Rws w a F) (hb : Bk w b (fc N l) t) (hg : Gb b w w') : Rws w' a F := h.gbN ⟨_, _, _, hb⟩ hg
theorem Rws.drewN {w : World} {a : Option Addr} {F : List BR} (h : Rws w a F) (n : Nat) : Rws (w.drewN n) a F := h
theorem Rws.at {w : World} {a : Option Addr} {F : List BR} (h : Rws w a F) {k : Nat} (hk : k < F.length) : ∃ g o, a = some ⟨g, o, none⟩ ∧ g < w.heap.size ∧ w.cell? ⟨g, o + k, none⟩ = some (.slice F[k].a F[k].l.length F[k].c) ∧ Rd w F[k].a (vb F[k].l) ∧ F[k].l.length ≤ 20 := by
  obtain ⟨g, o, e, hg, hc⟩ := h.1 k _ (brs_at hk)
  exact ⟨g, o, e, hg, hc, (h.2 _ (List.getElem_mem hk)).1.1, (h.2 _ (List.getElem_mem hk)).2⟩

section
variable {w : World} {b N l : Nat} {a : Option Addr} {L : List Bool} {c : Nat}
theorem see_at (h0 : 0 < N) (hN : N ≤ 4096) (hl : l ≤ N) (hb : Fb w b N l) (hr : Rd w a (vb L)) :
    Calls Try.prog 13 #[.pointer (some ⟨b, 0, none⟩), .func (.func 24) #[] #[.pointer (some ⟨w.heap.size, 0, none⟩)]] (w.alloc (.cells #[.slice a L.length c] 34)) fun e w' => e = .returned (.tuple #[.int .i64 ((ask N l (wl L)).1 : Int), .bool (ask N l (wl L)).2]) ∧ Below w.heap.size w w' := by
  have B0 : Below w.heap.size w (w.alloc (.cells #[.slice a L.length c] 34)) := (Below.refl _ _).alloc (Nat.le_refl _) _
  refine (see_grows atc_ent h0 hN hl (hb.alloc _) (atc_grows (Bk.new w _ _) (hr.alloc _) N)).mono ?_
  rintro e w' ⟨rfl, h⟩
  exact ⟨rfl, B0.trans (h.mono B0.size)⟩
theorem next_at (h0 : 0 < N) (hN : N ≤ 4096) (hl : l ≤ N) (hb : Fb w b N l) (hr : Rd w a (vb L)) :
    Calls Try.prog 19 #[.pointer (some ⟨b, 0, none⟩), .func (.func 24) #[] #[.pointer (some ⟨w.heap.size, 0, none⟩)]] (w.alloc (.cells #[.slice a L.length c] 34)) fun e w' => e = .returned (.tuple #[.int .i64 ((ask N l (wl L)).1 : Int), .bool (ask N l (wl L)).2]) ∧ Fb w' b N (nxtl N l (wl L)) ∧ Gb b w w' := by
  refine (next_grows atc_ent h0 hN hl (hb.alloc _) (atc_grows (Bk.new w _ _) (hr.alloc _) N)).mono ?_
  rintro e w' ⟨rfl, h1, h2⟩
  exact ⟨rfl, h1, ((Gb.refl b w).alloc _).trans h2⟩
end
/-- A number's rest. -/
def rst (n : Int) (m : Nat) : Nat := (IntKind.u64.wrap n % (m : Int)).toNat
theorem rst_in (n : Int) {m : Nat} (h0 : 0 < m) (h1 : m ≤ 65536) : rst n m < m ∧ IntKind.i64.wrap ((IntKind.u64.wrap n).tmod (m : Int)) = (rst n m : Int) := by
  have a0 : 0 ≤ IntKind.u64.wrap n := by rw [IntKind.wrap_u64]; exact Int.emod_nonneg _ (by decide)
  have e : (IntKind.u64.wrap n).tmod (m : Int) = IntKind.u64.wrap n % (m : Int) := Int.tmod_eq_emod_of_nonneg a0
  have a1 := Int.emod_nonneg (IntKind.u64.wrap n) (show (m : Int) ≠ 0 by omega)
  have a2 := Int.emod_lt_of_pos (IntKind.u64.wrap n) (show (0 : Int) < (m : Int) by omega)
  unfold rst
  rw [e, IntWalk.i64_in _ (by omega)]
  omega
theorem ask_same {N l : Nat} {W : Nat → Bool} (h : (ask N l W).2 = false) : nxtl N l W = l := by
  unfold nxtl
  rw [h]
  rfl
end Go.Proofs.Ytaeoglfpcbehdaa

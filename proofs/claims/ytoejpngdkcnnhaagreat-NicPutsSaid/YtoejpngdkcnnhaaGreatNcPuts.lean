/-
  The program's nic: Put, in a row.
-/
import Derived.Test.YtoejpngdkcnnhaaGreatNcPut
namespace Go.Proofs.YtoejpngdkcnnhaaGreat
open Go.RowKit

theorem Rd.tn {T : Nat → Prop} {w w' : World} {a : Option Addr} {l : List Value} (h : Rd w a l) (ht : Tn T w w') (hn : ∀ x, a = some x → ¬ T x.block) : Rd w' a l := fun j v hj => by
  obtain ⟨g, off, rfl, hg, hc⟩ := h j v hj
  exact ⟨g, off, rfl, Nat.lt_of_lt_of_le hg ht.size, by rw [World.cell?_of_block (ht.block g hg (hn _ rfl))]; exact hc⟩
theorem Rd.tl {w : World} {h q : Nat} {v : Value} {l : List Value} (r : Rd w (some ⟨h, q, none⟩) (v :: l)) : Rd w (some ⟨h, q + 1, none⟩) l := fun j x hj => by
  obtain ⟨g, off, e, hg, hc⟩ := r (j + 1) x hj
  simp only [Option.some.injEq, Addr.mk.injEq] at e
  obtain ⟨rfl, rfl, _⟩ := e
  exact ⟨h, q + 1, rfl, hg, by rw [show q + 1 + j = q + (j + 1) by omega]; exact hc⟩
/-- One parcel's place in the block: its lane; where its words lie. -/
structure Plc (w : World) (B b g : Nat) (cs : Array Value) (o : Nat) (x : Int × List Nat) : Prop where
  lane : cs[o]? = some (.int .i64 x.1)
  ws : ∃ h q mc, cs[o + 1]? = some (.slice (some ⟨h, q, none⟩) x.2.length mc) ∧ x.2.length ≤ mc ∧ (h ≠ g ∧ h ≠ b ∧ h < B) ∧ Rd w (some ⟨h, q, none⟩) (vw x.2)
  n1 : 1 ≤ x.2.length
  n2 : x.2.length ≤ 1000000
/-- The parcels whose words are to be put in, in their block. -/
structure Puts (w : World) (B b g : Nat) (cu : Value) (L : List (Int × List Nat)) : Prop where
  ne : g ≠ b
  blk : ∃ cs t, Bk w g cs t ∧ (L = [] ∨ ∃ o cap, cu = .slice (some ⟨g, o, none⟩) L.length cap ∧ L.length ≤ cap ∧ cap ≤ maxLen ∧ ∀ j x, L[j]? = some x → Plc w B b g cs (o + 2 * j) x)
section
variable {w : World} {B b ib : Nat} {S : Nc} {cu : Value} {J : Nat → Value} {g : Nat} {L : List (Int × List Nat)} {l : Int} {W : Nat} {r : List Nat}
theorem Plc.tn {w' : World} {cs : Array Value} {o : Nat} {x : Int × List Nat} (h : Plc w B b g cs o x) (ht : Tn (fun x => x = b ∨ x = g) w w') : Plc w' B b g cs o x := by
  obtain ⟨h1, ⟨a, q, mc, h2, h3, h4, h6⟩, n1, n2⟩ := h
  exact ⟨h1, ⟨a, q, mc, h2, h3, h4, h6.tn ht fun y hy => by cases hy; exact fun c => c.elim h4.2.1 h4.1⟩, n1, n2⟩
theorem Plc.other {cs cs' : Array Value} {o : Nat} {x : Int × List Nat} (h : Plc w B b g cs o x) (e0 : cs'[o]? = cs[o]?) (e1 : cs'[o + 1]? = cs[o + 1]?) : Plc w B b g cs' o x := by
  obtain ⟨h1, h2, n1, n2⟩ := h
  exact ⟨e0.trans h1, by rw [e1]; exact h2, n1, n2⟩
theorem Puts.next {w' : World} (h : Puts w B b g cu L) (hb : Below w.heap.size w w') : Puts w' B b g cu L := by
  obtain ⟨ne, cs, t, hB, h⟩ := h
  refine ⟨ne, cs, t, hB.next hb, ?_⟩
  rcases h with h | ⟨o, cap, h1, h2, h3, h4⟩
  · exact Or.inl h
  · exact Or.inr ⟨o, cap, h1, h2, h3, fun j x hj => (h4 j x hj).tn ((Tn.refl _ w).below hb)⟩
theorem put_empty (hN : Nb w b ib S cu J) (h0 : S.lf = 0) : Calls Tryz.prog 13 #[.pointer (some ⟨b, 0, none⟩)] w fun e w' => e = .returned (.tuple #[zcell, .int .i64 8]) ∧ Below w.heap.size w w' := by
  have b1 : Below w.heap.size w (w.alloc (.cells #[.int .i64 0, .int .u64 0] 48)) := (Below.refl _ _).alloc (Nat.le_refl _) _
  have CF := first_empty (hN.next b1) h0
  simp only [zcell] at CF ⊢
  have HB : Hid (Below w.heap.size w (w.alloc (.cells #[.int .i64 0, .int .u64 0] 48))) := b1
  have BN := Bk.new w #[.int .i64 0, .int .u64 0] 48
  clear hN h0 b1
  go_enter Tryz.func13, Tryz.ntmps13
  go_upto_region 1 with fail
  generalize w.alloc (.cells #[.int .i64 0, .int .u64 0] 48) = v at *
  obtain ⟨k, hk⟩ : ∃ r, w.heap.size = r := ⟨_, rfl⟩
  have HR : Hid (w.heap.size = k) := hk
  rw [hk] at BN ⊢
  clear hk
  go_wp2_with fail
  go_at_call 16
  with_reducible refine CF.mono ?_
  rintro e v2 ⟨rfl, hb2⟩
  have BH : Hid (Bk v2 k #[.int .i64 0, .int .u64 0] 48) := BN.next hb2
  have HB2 : Hid (Below w.heap.size w v2) := HB.out.trans (hb2.mono HB.out.size)
  have HS : Hid (k < v2.heap.size) := BH.out.lt
  clear BN hb2 CF HB
  go_upto_region 2 with fail
  have C2 := Bk.new v2 #[.int .i64 0, .int .u64 0] 48
  have C1 := BH.out.alloc (.cells #[.int .i64 0, .int .u64 0] 48)
  have HB3 : Hid (Below w.heap.size w (v2.alloc (.cells #[.int .i64 0, .int .u64 0] 48))) := HB2.out.alloc HB2.out.size _
  clear BH HB2
  generalize v2.alloc (.cells #[.int .i64 0, .int .u64 0] 48) = v3 at *
  generalize v2.heap.size = k2 at *
  have a0 := C1.cell 0
  have a1 := C1.cell 1
  have f0 := C1.free 0
  have f1 := C1.free 1
  have d0 := C2.cell 0
  have d1 := C2.cell 1
  simp only [List.getElem?_toArray, List.getElem?_cons_zero, List.getElem?_cons_succ] at a0 a1 d0 d1
  have BH : Hid (Bk v3 k #[.int .i64 0, .int .u64 0] 48) := C1
  clear C1 C2
  go_wp2
  have Y := two_at (x0 := .int .i64 0) (x1 := .int .u64 0) BH.out
  have y0 := Y.cell 0
  have y1 := Y.cell 1
  simp only [List.getElem?_toArray, List.getElem?_cons_zero, List.getElem?_cons_succ] at y0 y1
  exact bodyPost_ret (v := .tuple #[.agg #[.int .i64 0, .int .u64 0], .int .i64 8]) (by simp [results, Tryz.results13, go_sem, y0, y1]; try rfl) rfl ⟨rfl, two_below HB3.out (by rw [HR.out]; exact Nat.le_refl _) _ _⟩
/-- What drop leaves. -/
def DropP (w : World) (B b ib : Nat) (S : Nc) (J : Nat → Value) (g : Nat) (L : List (Int × List Nat)) (l : Int) (r : List Nat) (w' : World) : Prop :=
  ∃ cu', Nb w' b ib { S with lf := S.lf - 1 } cu' J ∧ Puts w' B b g cu' (if r = [] then L else (l, r) :: L) ∧ Tn (fun x => x = b ∨ x = g) w w'
theorem drop_any (hN : Nb w b ib S cu J) (h1 : 1 ≤ S.lf) (h2 : S.lf ≤ 1000000) (hP : Puts w B b g cu ((l, W :: r) :: L)) : Calls Tryz.prog 34 #[.pointer (some ⟨b, 0, none⟩)] w fun e w' => e = .returned (.tuple #[]) ∧ DropP w B b ib S J g L l r w' := by
  obtain ⟨ne, cs, t, hB, h⟩ := hP
  rcases h with h | ⟨o, cap, rfl, n2, n3, hL⟩
  · cases h
  obtain ⟨p1, ⟨a, q, mc, p2, p3, p4, p6⟩, p7, p8⟩ := hL 0 _ rfl
  rw [Nat.mul_zero, Nat.add_zero] at p1 p2
  simp only [List.length_cons] at p2 p3 p7 p8 n2
  by_cases hr : r = []
  · subst hr
    refine (drop_last hN h1 h2 (by simp) (by simpa using n2) hB ne p1 p2 n3).mono ?_
    rintro e w' ⟨rfl, ⟨ad, ha, k1⟩, k2, k3⟩
    refine ⟨rfl, _, k1, ?_, k3⟩
    rw [if_pos rfl]
    refine ⟨ne, _, _, k2, ?_⟩
    cases L with
    | nil => exact Or.inl rfl
    | cons y L =>
      rw [ha (by simp)]
      refine Or.inr ⟨o + 2, cap - 1, by simp, by simp at n2 ⊢; omega, by omega, fun j x hj => ?_⟩
      have := (hL (j + 1) x hj).tn k3
      rw [show o + 2 * (j + 1) = o + 2 + 2 * j by omega] at this
      refine this.other ?_ ?_
      · rw [Array.getElem?_setIfInBounds_ne (by omega), Array.getElem?_setIfInBounds_ne (by omega)]
      · rw [Array.getElem?_setIfInBounds_ne (by omega), Array.getElem?_setIfInBounds_ne (by omega)]
  · have hl : 1 ≤ r.length := by cases r with | nil => exact absurd rfl hr | cons _ _ => simp
    refine (drop_more hN h1 h2 (by simp) hB ne p2 (by omega) p3 p8).mono ?_
    rintro e w' ⟨rfl, k1, k2, k3⟩
    refine ⟨rfl, _, k1, ?_, k3⟩
    rw [if_neg hr]
    refine ⟨ne, _, _, k2, Or.inr ⟨o, cap, by simp, by simpa using n2, n3, fun j x hj => ?_⟩⟩
    have hsz : o + 1 < cs.size := (Array.getElem?_eq_some_iff.1 p2).1
    cases j with
    | zero =>
      simp only [List.getElem?_cons_zero, Option.some.injEq] at hj
      subst hj
      rw [Nat.mul_zero, Nat.add_zero]
      refine ⟨?_, ⟨a, q + 1, r.length, ?_, Nat.le_refl _, p4, ?_⟩, hl, by simp only; omega⟩
      · rw [Array.getElem?_setIfInBounds_ne (by omega)]; exact p1
      · rw [Array.getElem?_setIfInBounds_self_of_lt hsz]; simp
      · have hv : vw (W :: r) = .int .u64 (W : Int) :: vw r := rfl
        rw [hv] at p6
        exact p6.tl.tn k3 fun y hy => by cases hy; exact fun c => c.elim p4.2.1 p4.1
    | succ j =>
      have := (hL (j + 1) x (by simpa using hj)).tn k3
      refine this.other ?_ ?_
      · rw [Array.getElem?_setIfInBounds_ne (by omega)]
      · rw [Array.getElem?_setIfInBounds_ne (by omega)]
theorem Puts.nxt (hP : Puts w B b g cu ((l, W :: r) :: L)) : ∃ o n cap h q m mc, Nxt w cu g o n cap h q m mc l W := by
  obtain ⟨ne, cs, t, hB, h⟩ := hP
  rcases h with h | ⟨o, cap, rfl, n2, n3, hL⟩
  · cases h
  obtain ⟨p1, ⟨a, q, mc, p2, p3, p4, p6⟩, p7, p8⟩ := hL 0 _ rfl
  rw [Nat.mul_zero, Nat.add_zero] at p1 p2
  obtain ⟨a', q', e, _, pc⟩ := p6 0 (.int .u64 (W : Int)) rfl
  simp only [Option.some.injEq, Addr.mk.injEq] at e
  obtain ⟨rfl, rfl, _⟩ := e
  exact ⟨o, _, cap, a, q, _, mc, rfl, by simp, n2, (hB.cell o).trans p1, (hB.cell (o + 1)).trans p2, by simp, p3, pc⟩
set_option maxRecDepth 100000 in
theorem nic_put (hN : Nb w b ib S cu J) (hBw : B ≤ w.heap.size) (h1 : 1 ≤ S.lf) (h2 : S.lf ≤ 1000000) (hP : Puts w B b g cu ((l, W :: r) :: L)) : Calls Tryz.prog 13 #[.pointer (some ⟨b, 0, none⟩)] w fun e w' => e = .returned (.tuple #[.agg #[.int .i64 l, .int .u64 (W : Int)], .int .i64 0]) ∧ DropP w B b ib S J g L l r w' := by
  have b1 : Below w.heap.size w (w.alloc (.cells #[.int .i64 0, .int .u64 0] 48)) := (Below.refl _ _).alloc (Nat.le_refl _) _
  obtain ⟨o, n, cap, h, q, m, mc, hX⟩ := hP.nxt
  have CF := first_any (hN.next b1) (by omega) (hX.next b1)
  have CD : Hid (∀ v, Below w.heap.size w v → Calls Tryz.prog 34 #[.pointer (some ⟨b, 0, none⟩)] v fun e w' => e = .returned (.tuple #[]) ∧ DropP v B b ib S J g L l r w') := show _ from fun v hv => drop_any (hN.next hv) h1 h2 (hP.next hv)
  have hbl := hN.lt
  have hgl : g < w.heap.size := by obtain ⟨_, cs, t, hB, _⟩ := hP; exact hB.lt
  have HFIN : Hid (∀ v u k, Below w.heap.size w v → w.heap.size ≤ k → DropP v B b ib S J g L l r u → ∀ x0 x1, DropP w B b ib S J g L l r ((u.setCell ⟨k, 0, none⟩ x0).setCell ⟨k, 1, none⟩ x1)) := show _ from fun v u k hv hk ⟨cu', k1, k2, k3⟩ x0 x1 => by
    have hbk : b ≠ k := by omega
    have hgk : g ≠ k := by omega
    have T1 : Tn (fun x => x = k) u ((u.setCell ⟨k, 0, none⟩ x0).setCell ⟨k, 1, none⟩ x1) := Tn.set (T := fun x => x = k) (Tn.set (T := fun x => x = k) (Tn.refl _ u) rfl _) rfl _
    refine ⟨cu', (k1.far hbk).far hbk, ?_, ?_⟩
    · obtain ⟨ne, cs, t, hB, h⟩ := k2
      refine ⟨ne, cs, t, (hB.far hgk).far hgk, ?_⟩
      rcases h with h | ⟨o, cap, h1, h2, h3, h4⟩
      · exact Or.inl h
      · refine Or.inr ⟨o, cap, h1, h2, h3, fun j x hj => ?_⟩
        obtain ⟨p1, ⟨a, q, mc, p2, p3, p4, p6⟩, p7, p8⟩ := h4 j x hj
        exact ⟨p1, ⟨a, q, mc, p2, p3, p4, p6.tn T1 fun y hy => by cases hy; have := p4.2.2; show a ≠ k; omega⟩, p7, p8⟩
    · have hs := hv.size
      have k3' : Tn (fun x => x = b ∨ x = g) w u := ((Tn.refl _ w).below hv).trans k3
      exact ⟨k3'.os, k3'.tape, k3'.output, by simpa using k3'.size, fun i hi hn => (T1.block i (Nat.lt_of_lt_of_le hi k3'.size) (by show i ≠ k; omega)).trans (k3'.block i hi hn), fun _ h => Or.inl h⟩
  have HB : Hid (Below w.heap.size w (w.alloc (.cells #[.int .i64 0, .int .u64 0] 48))) := b1
  have BN := Bk.new w #[.int .i64 0, .int .u64 0] 48
  have HK : Hid (∀ v u, Below w.heap.size w v → DropP v B b ib S J g L l r u → ∀ k, k < v.heap.size → k ≠ b → k ≠ g → u.heap[k]? = v.heap[k]?) := show _ from fun v u hv ⟨_, _, _, k3⟩ k hk n1 n2 => k3.block k hk fun c => c.elim n1 n2
  have HBG : Hid (b < w.heap.size ∧ g < w.heap.size) := ⟨hbl, hgl⟩
  generalize DropP = DP at *
  clear hN h1 h2 hP b1 hX hBw hbl hgl
  go_enter Tryz.func13, Tryz.ntmps13
  go_upto_region 1 with fail
  generalize w.alloc (.cells #[.int .i64 0, .int .u64 0] 48) = v at *
  obtain ⟨k, hk⟩ : ∃ r, w.heap.size = r := ⟨_, rfl⟩
  have HR : Hid (w.heap.size = k) := hk
  rw [hk] at BN ⊢
  clear hk
  go_wp2_with fail
  go_at_call 16
  with_reducible refine CF.mono ?_
  rintro e v2 ⟨rfl, hb2⟩
  have BH : Hid (Bk v2 k #[.int .i64 0, .int .u64 0] 48) := BN.next hb2
  have HB2 : Hid (Below w.heap.size w v2) := HB.out.trans (hb2.mono HB.out.size)
  clear BN hb2 CF HB
  go_upto_region 2 with fail
  have CA := Bk.new v2 #[.int .i64 l, .int .u64 (W : Int)] 48
  have CB := BH.out.alloc (.cells #[.int .i64 l, .int .u64 (W : Int)] 48)
  have hb3 : Below w.heap.size w (v2.alloc (.cells #[.int .i64 l, .int .u64 (W : Int)] 48)) := HB2.out.alloc HB2.out.size _
  have HB3 : Hid (Below w.heap.size w (v2.alloc (.cells #[.int .i64 l, .int .u64 (W : Int)] 48))) := hb3
  have CD3 := CD.out _ hb3
  have hl2 : v2.heap.size < (v2.alloc (.cells #[.int .i64 l, .int .u64 (W : Int)] 48)).heap.size := by simp
  have hw2 := HB2.out.size
  have hkk := BH.out.lt
  clear BH HB2 hb3 CD
  generalize v2.alloc (.cells #[.int .i64 l, .int .u64 (W : Int)] 48) = v3 at *
  generalize v2.heap.size = k2 at *
  go_wp2_with fail
  go_at_call 34
  with_reducible refine CD3.mono ?_
  rintro e u ⟨rfl, hD⟩
  have hw := HR.out
  have hbg := HBG.out
  have HDP : Hid (DP v3 B b ib S J g L l r u) := hD
  have HKb : k ≠ b ∧ k ≠ g := by omega
  have HK2 : k2 ≠ b ∧ k2 ≠ g := by omega
  have DA := CA
  have DB : Bk u k #[.int .i64 0, .int .u64 0] 48 := by
    unfold Bk
    rw [HK.out v3 u HB3.out hD k (by have := CB.lt; omega) HKb.1 HKb.2]
    exact CB
  have DA : Bk u k2 #[.int .i64 l, .int .u64 (W : Int)] 48 := by
    unfold Bk
    rw [HK.out v3 u HB3.out hD k2 hl2 HK2.1 HK2.2]
    exact CA
  clear CA CB CD3 hD HKb HK2 hw hbg HK HBG
  have a0 := DB.cell 0
  have a1 := DB.cell 1
  have f0 := DB.free 0
  have f1 := DB.free 1
  have d0 := DA.cell 0
  have d1 := DA.cell 1
  simp only [List.getElem?_toArray, List.getElem?_cons_zero, List.getElem?_cons_succ] at a0 a1 d0 d1
  have BH : Hid (Bk u k #[.int .i64 0, .int .u64 0] 48) := DB
  clear DA DB
  go_wp2
  have Y := two_at (x0 := .int .i64 l) (x1 := .int .u64 (W : Int)) BH.out
  have y0 := Y.cell 0
  have y1 := Y.cell 1
  simp only [List.getElem?_toArray, List.getElem?_cons_zero, List.getElem?_cons_succ] at y0 y1
  exact bodyPost_ret (v := .tuple #[.agg #[.int .i64 l, .int .u64 (W : Int)], .int .i64 0]) (by simp [results, Tryz.results13, go_sem, y0, y1]; try rfl) rfl ⟨rfl, HFIN.out v3 u k HB3.out (by rw [HR.out]; exact Nat.le_refl _) HDP.out _ _⟩
end
end Go.Proofs.YtoejpngdkcnnhaaGreat

/-
  The walk of RouterTurns. (Written by gen_rtrn.py.)
-/
import Derived.Test.YtmmegmonmilkcaaGreatDoorRtSet
import Derived.Test.YtmmegmonmilkcaaGreatDoorRtTrn
import Derived.Test.YtmmegmonmilkcaaGreatDoorRtLives
import Derived.Test.YtmmegmonmilkcaaGreatDoorGrid
namespace Go.Proofs.YtmmegmonmilkcaaGreatDoor
open Go.RowKit

theorem off_step2 {w w' : World} {F F' : Nat → Prop} {a : Option Addr} {L : List Nat} (h : Off F a) (r : Rd w a (vw L)) (hl : 0 < L.length) (g : Gr F w w' F') : Off F' a := fun x e => by
  obtain ⟨g0, o0, e0, hg, -⟩ := r 0 _ (vw_at hl)
  rw [e] at e0
  cases e0
  exact g.off (h _ e) hg
theorem Rd.away {w : World} {a : Option Addr} {vs : List Value} {k j : Nat} {x : Value} (h : Rd w a vs) (hk : ∀ y, a = some y → k < y.block) : Rd (w.setCell ⟨k, j, none⟩ x) a vs := fun i v hi => by
  obtain ⟨g, o, e, hg, hc⟩ := h i v hi
  have := hk _ e
  simp only at this
  exact ⟨g, o, e, by simpa using hg, by rw [World.cell?_setCell_other _ _ _ _ (by intro c; simp only [Addr.mk.injEq] at c; omega)]; exact hc⟩
/-- A law's router since u; beside it the parcels, and the rows of words of the first i of them. -/
structure TnS (u wr : World) (sb wb : Nat) (CS : Array Value) (VS : Nat → Value) (Ls : Nat → List Nat) (i b : Nat) (c : G.Cf) (S : RS) (F : Nat → Prop) : Prop where
  l : RSt u wr b c S F
  s : Bk wr sb CS 39
  so : ¬ F sb
  w : Bk wr wb #[VS 0, VS 1] 86
  wo : ¬ F wb
  r : ∀ j, j < i → ∃ a cap, VS j = .slice a (Ls j).length cap ∧ (Ls j).length ≤ cap ∧ Rd wr a (vw (Ls j)) ∧ Off F a ∧ ∀ y, a = some y → wb < y.block
section
variable {u wr w' : World} {sb wb : Nat} {CS : Array Value} {VS : Nat → Value} {Ls : Nat → List Nat} {i b : Nat} {c : G.Cf} {S S' : RS} {F F' : Nat → Prop}
theorem TnS.next (h : TnS u wr sb wb CS VS Ls i b c S F) (k : Below wr.heap.size wr w') : TnS u w' sb wb CS VS Ls i b c S F :=
  ⟨h.l.next k, h.s.next k, h.so, h.w.next k, h.wo, fun j hj => by
    obtain ⟨a, cap, h1, h2, h3, h4, h5⟩ := h.r j hj
    exact ⟨a, cap, h1, h2, h3.below k, h4, h5⟩⟩
theorem TnS.step (h : TnS u wr sb wb CS VS Ls i b c S F) (hl : ∀ j, j < i → 0 < (Ls j).length) (l : Rt w' b c S' F') (g : Gr F wr w' F') : TnS u w' sb wb CS VS Ls i b c S' F' :=
  ⟨h.l.step l g, h.s.gr g h.so, g.off h.so h.s.lt, h.w.gr g h.wo, g.off h.wo h.w.lt, fun j hj => by
    obtain ⟨a, cap, h1, h2, h3, h4, h5⟩ := h.r j hj
    exact ⟨a, cap, h1, h2, h3.gr g h4, off_step2 h4 h3 (hl j hj) g, h5⟩⟩
/-- One more row. -/
theorem TnS.more (h : TnS u wr sb wb CS VS Ls i b c S F) (hi : i < 2) (hw : u.heap.size ≤ wb) (hs : sb ≠ wb) {a : Option Addr} {cap : Nat} (h2 : (Ls i).length ≤ cap) (h3 : Rd wr a (vw (Ls i))) (h4 : Off F a) (h5 : ∀ y, a = some y → wb < y.block) :
    TnS u (wr.setCell ⟨wb, i, none⟩ (.slice a (Ls i).length cap)) sb wb CS (fun j => if j = i then .slice a (Ls i).length cap else VS j) Ls (i + 1) b c S F := by
  refine ⟨h.l.far h.wo hw, h.s.far hs, h.so, ?_, h.wo, fun j hj => ?_⟩
  · have := h.w.set i (.slice a (Ls i).length cap)
    rcases (show i = 0 ∨ i = 1 by omega) with rfl | rfl
    · simpa using this
    · simpa using this
  · by_cases e : j = i
    · subst e
      exact ⟨a, cap, by simp, h2, h3.away h5, h4, h5⟩
    · obtain ⟨a', cap', g1, g2, g3, g4, g5⟩ := h.r j (by omega)
      exact ⟨a', cap', by simp [e, g1], g2, g3.away g5, g4, g5⟩
theorem TnS.far (h : TnS u wr sb wb CS VS Ls i b c S F) {k j : Nat} {x : Value} (hF : ¬ F k) (hu : u.heap.size ≤ k) (hs : sb ≠ k) (hw : wb ≠ k) (hr : ∀ j, j < i → ∀ a n cap, VS j = .slice a n cap → ∀ y, a = some y → y.block ≠ k) : TnS u (wr.setCell ⟨k, j, none⟩ x) sb wb CS VS Ls i b c S F :=
  ⟨h.l.far hF hu, h.s.far hs, h.so, h.w.far hw, h.wo, fun q hq => by
    obtain ⟨a, cap, h1, h2, h3, h4, h5⟩ := h.r q hq
    refine ⟨a, cap, h1, h2, fun p v hp => ?_, h4, h5⟩
    obtain ⟨g, o, e, hg, hc⟩ := h3 p v hp
    have := hr q hq a _ _ h1 _ e
    simp only at this
    exact ⟨g, o, e, by simpa using hg, by rw [World.cell?_setCell_other _ _ _ _ (by intro c; simp only [Addr.mk.injEq] at c; omega)]; exact hc⟩⟩
end
/-- A cell as a number. -/
def cellN (w : World) (a : Addr) : Nat := match w.cell? a with | some (.int _ n) => n.toNat | _ => 0

set_option maxRecDepth 100000 in
set_option maxHeartbeats 16000000 in
theorem turns_law (c0 : G.Cf) (s1 : Int) (cc1 : Bool) (a1 : Option Addr) (cap1 : Nat) (x1 : ByteArray) (hs1 : List (Int × Int)) (s2 : Int) (cc2 : Bool) (a2 : Option Addr) (cap2 : Nat) (x2 : ByteArray) (hs2 : List (Int × Int)) (w : World) (hm1 : hs1.length ≤ maxLen) (hx1 : x1.size ≤ maxLen) (hr1 : Rd w a1 (pc hs1)) (hm2 : hs2.length ≤ maxLen) (hx2 : x2.size ≤ maxLen) (hr2 : Rd w a2 (pc hs2)) (hT : G.Tabs w) (hS : G.Steps w) :
    Calls Tryz.prog 8 #[G.cfv c0, pcv s1 cc1 (.slice a1 hs1.length cap1) x1, pcv s2 cc2 (.slice a2 hs2.length cap2) x2] w fun e w' => e = .returned (.bool true) ∧ Below w.heap.size w w' := by
  have SC := fun v => G.small_form c0 v
  have HT : Hid (G.Tabs w ∧ G.Steps w) := show _ ∧ _ from ⟨hT, hS⟩
  -- the parcels, by their numbers
  obtain ⟨sS, hsS⟩ : ∃ f : Nat → Int, f = fun i => if i = 0 then s1 else s2 := ⟨_, rfl⟩
  obtain ⟨sC, hsC⟩ : ∃ f : Nat → Bool, f = fun i => if i = 0 then cc1 else cc2 := ⟨_, rfl⟩
  obtain ⟨sA, hsA⟩ : ∃ f : Nat → Option Addr, f = fun i => if i = 0 then a1 else a2 := ⟨_, rfl⟩
  obtain ⟨sN, hsN⟩ : ∃ f : Nat → Nat, f = fun i => if i = 0 then hs1.length else hs2.length := ⟨_, rfl⟩
  obtain ⟨sK, hsK⟩ : ∃ f : Nat → Nat, f = fun i => if i = 0 then cap1 else cap2 := ⟨_, rfl⟩
  obtain ⟨sX, hsX⟩ : ∃ f : Nat → ByteArray, f = fun i => if i = 0 then x1 else x2 := ⟨_, rfl⟩
  obtain ⟨sP, hsP⟩ : ∃ f : Nat → Pc, f = fun i => if i = 0 then gd ⟨s1, false, hs1, x1⟩ else gd ⟨s2, false, hs2, x2⟩ := ⟨_, rfl⟩
  have GC : Hid (∀ i v, i < 2 → Below w.heap.size w v → Calls Tryz.prog 29 #[.agg #[.int .i64 (sS i), .bool false, .slice (sA i) (sN i) (sK i), .string (sX i)]] v (PcN v (sP i))) := show _ from fun i v hi hb => by
    rcases (show i = 0 ∨ i = 1 by omega) with rfl | rfl
    · rw [hsS, hsA, hsN, hsK, hsX, hsP]
      exact good_new s1 false a1 cap1 x1 hs1 v hm1 hx1 (hr1.below hb)
    · rw [hsS, hsA, hsN, hsK, hsX, hsP]
      exact good_new s2 false a2 cap2 x2 hs2 v hm2 hx2 (hr2.below hb)
  have FP : ∀ i, i < 2 → Fine (sP i) ∧ (sP i).c = false := fun i hi => by
    rcases (show i = 0 ∨ i = 1 by omega) with rfl | rfl
    · rw [hsP]; exact ⟨fine ⟨s1, false, hs1, x1⟩, rfl⟩
    · rw [hsP]; exact ⟨fine ⟨s2, false, hs2, x2⟩, rfl⟩
  have CE : Hid (∀ i v sb, i < 2 → Bk v sb #[.int .i64 s1, .bool cc1, .slice a1 hs1.length cap1, .string x1, .int .i64 s2, .bool cc2, .slice a2 hs2.length cap2, .string x2] 39 → v.cell? ⟨sb, i * 4, none⟩ = some (.int .i64 (sS i)) ∧ v.cell? ⟨sb, i * 4 + 1, none⟩ = some (.bool (sC i)) ∧ v.cell? ⟨sb, i * 4 + 2, none⟩ = some (.slice (sA i) (sN i) (sK i)) ∧ v.cell? ⟨sb, i * 4 + 3, none⟩ = some (.string (sX i))) := show _ from fun i v sb hi hb => by
    rcases (show i = 0 ∨ i = 1 by omega) with rfl | rfl
    · rw [hsS, hsC, hsA, hsN, hsK, hsX]
      exact ⟨hb.cell 0, hb.cell 1, hb.cell 2, hb.cell 3⟩
    · rw [hsS, hsC, hsA, hsN, hsK, hsX]
      exact ⟨hb.cell 4, hb.cell 5, hb.cell 6, hb.cell 7⟩
  clear hsS hsC hsA hsN hsK hsX hsP hm1 hx1 hr1 hm2 hx2 hr2 hT hS
  obtain ⟨n1, hn1⟩ : ∃ n, hs1.length = n := ⟨_, rfl⟩
  obtain ⟨n2, hn2⟩ : ∃ n, hs2.length = n := ⟨_, rfl⟩
  rw [hn1, hn2] at CE ⊢
  clear hn1 hn2
  obtain ⟨cw, ch, cl, cd, cr, ci, cb, we, ca⟩ := c0
  simp only [G.cfv, G.cfc, pcv, pcc] at *
  have X0 : Hid (Bx3 w (((w.alloc (.cells #[.int .i64 cw, .int .i64 ch, .int .i64 cl, .int .i64 cd, .int .i64 cr, .int .i64 ci, .int .i64 cb, .bool we, .bool ca] 23)).alloc (.cells #[.int .i64 s1, .bool cc1, .slice a1 n1 cap1, .string x1] 39)).alloc (.cells #[.int .i64 s2, .bool cc2, .slice a2 n2 cap2, .string x2] 39)) w.heap.size #[.int .i64 cw, .int .i64 ch, .int .i64 cl, .int .i64 cd, .int .i64 cr, .int .i64 ci, .int .i64 cb, .bool we, .bool ca] #[.int .i64 s1, .bool cc1, .slice a1 n1 cap1, .string x1] #[.int .i64 s2, .bool cc2, .slice a2 n2 cap2, .string x2] 23 39 39) := Bx3.start w _ _ _ _ _ _
  have LV := lives_any (((w.alloc (.cells #[.int .i64 cw, .int .i64 ch, .int .i64 cl, .int .i64 cd, .int .i64 cr, .int .i64 ci, .int .i64 cb, .bool we, .bool ca] 23)).alloc (.cells #[.int .i64 s1, .bool cc1, .slice a1 n1 cap1, .string x1] 39)).alloc (.cells #[.int .i64 s2, .bool cc2, .slice a2 n2 cap2, .string x2] 39)) (HT.out.1.next X0.out.b) (HT.out.2.next X0.out.b)
  go_enter Tryz.func8, Tryz.ntmps8
  go_upto_region 1 with fail
  generalize (((w.alloc (.cells #[.int .i64 cw, .int .i64 ch, .int .i64 cl, .int .i64 cd, .int .i64 cr, .int .i64 ci, .int .i64 cb, .bool we, .bool ca] 23)).alloc (.cells #[.int .i64 s1, .bool cc1, .slice a1 n1 cap1, .string x1] 39)).alloc (.cells #[.int .i64 s2, .bool cc2, .slice a2 n2 cap2, .string x2] 39)) = v0 at *
  obtain ⟨A, hA⟩ : ∃ A, w.heap.size = A := ⟨_, rfl⟩
  have HAW : Hid (w.heap.size = A) := hA
  rw [hA] at X0 GC ⊢
  clear hA
  go_wp2_with fail
  go_at_call 9
  with_reducible refine LV.mono ?_
  rintro e w1 ⟨rfl, b1⟩
  have X1 : Hid (Bx3 w w1 A #[.int .i64 cw, .int .i64 ch, .int .i64 cl, .int .i64 cd, .int .i64 cr, .int .i64 ci, .int .i64 cb, .bool we, .bool ca] #[.int .i64 s1, .bool cc1, .slice a1 n1 cap1, .string x1] #[.int .i64 s2, .bool cc2, .slice a2 n2 cap2, .string x2] 23 39 39) := X0.out.next b1
  clear LV b1 X0
  obtain ⟨k0, k1, k2, k3, k4, k5, k6, k7, k8⟩ := nine_cells X1.out.q
  go_wp2_with fail
  go_at_call 10
  with_reducible refine (SC _).mono ?_
  rintro e w2 ⟨dw, dh, dl, dd, dr, di, db, de, da, rfl, b2, ft, hw4, hh4⟩
  have X2 : Hid (Bx3 w w2 A #[.int .i64 cw, .int .i64 ch, .int .i64 cl, .int .i64 cd, .int .i64 cr, .int .i64 ci, .int .i64 cb, .bool we, .bool ca] #[.int .i64 s1, .bool cc1, .slice a1 n1 cap1, .string x1] #[.int .i64 s2, .bool cc2, .slice a2 n2 cap2, .string x2] 23 39 39) := X1.out.next b2
  clear SC X1 k0 k1 k2 k3 k4 k5 k6 k7 k8 b2 hw4 hh4
  obtain ⟨k0, k1, k2, k3, k4, k5, k6, k7, k8⟩ := nine_cells X2.out.q
  obtain ⟨z0, z1, z2, z3, z4, z5, z6, z7, z8⟩ := nine_free X2.out.q
  go_upto_region 4 with fail
  have X3 : Hid (Bx3 w (((((((((w2.setCell ⟨A, 0, none⟩ (.int .i64 dw)).setCell ⟨A, 1, none⟩ (.int .i64 dh)).setCell ⟨A, 2, none⟩ (.int .i64 dl)).setCell ⟨A, 3, none⟩ (.int .i64 dd)).setCell ⟨A, 4, none⟩ (.int .i64 dr)).setCell ⟨A, 5, none⟩ (.int .i64 di)).setCell ⟨A, 6, none⟩ (.int .i64 db)).setCell ⟨A, 7, none⟩ (.bool de)).setCell ⟨A, 8, none⟩ (.bool da)) A #[.int .i64 dw, .int .i64 dh, .int .i64 dl, .int .i64 dd, .int .i64 dr, .int .i64 di, .int .i64 db, .bool de, .bool da] #[.int .i64 s1, .bool cc1, .slice a1 n1 cap1, .string x1] #[.int .i64 s2, .bool cc2, .slice a2 n2 cap2, .string x2] 23 39 39) := X2.out.config
  clear X2 k0 k1 k2 k3 k4 k5 k6 k7 k8 z0 z1 z2 z3 z4 z5 z6 z7 z8
  generalize (((((((((w2.setCell ⟨A, 0, none⟩ (.int .i64 dw)).setCell ⟨A, 1, none⟩ (.int .i64 dh)).setCell ⟨A, 2, none⟩ (.int .i64 dl)).setCell ⟨A, 3, none⟩ (.int .i64 dd)).setCell ⟨A, 4, none⟩ (.int .i64 dr)).setCell ⟨A, 5, none⟩ (.int .i64 di)).setCell ⟨A, 6, none⟩ (.int .i64 db)).setCell ⟨A, 7, none⟩ (.bool de)).setCell ⟨A, 8, none⟩ (.bool da)) = w3 at *
  have hl1 : 1 ≤ dl := ft.l1
  have hl8 : dl ≤ 8 := ft.l2
  obtain ⟨k0, k1, k2, k3, k4, k5, k6, k7, k8⟩ := nine_cells X3.out.q
  obtain ⟨z0, z1, z2, z3, z4, z5, z6, z7, z8⟩ := nine_free X3.out.q
  go_upto_region 7 with fail
  have X4 : Hid (Bx3 w ((((w3.setCell ⟨A, 0, none⟩ (.int .i64 3)).setCell ⟨A, 1, none⟩ (.int .i64 1)).setCell ⟨A, 8, none⟩ (.bool false))) A #[.int .i64 3, .int .i64 1, .int .i64 dl, .int .i64 dd, .int .i64 dr, .int .i64 di, .int .i64 db, .bool de, .bool false] #[.int .i64 s1, .bool cc1, .slice a1 n1 cap1, .string x1] #[.int .i64 s2, .bool cc2, .slice a2 n2 cap2, .string x2] 23 39 39) := show Bx3 _ _ _ _ _ _ _ _ _ from by
    have := ((X3.out.setq 0 (.int .i64 3)).setq 1 (.int .i64 1)).setq 8 (.bool false)
    simpa using this
  clear X3 k0 k1 k2 k3 k4 k5 k6 k7 k8 z0 z1 z2 z3 z4 z5 z6 z7 z8
  generalize (((w3.setCell ⟨A, 0, none⟩ (.int .i64 3)).setCell ⟨A, 1, none⟩ (.int .i64 1)).setCell ⟨A, 8, none⟩ (.bool false)) = w4 at *
  go_cut [] from 33 to 36 (fun wc => ∃ ln : Nat, 2 ≤ ln ∧ ln ≤ 8 ∧ Bx3 w wc A #[.int .i64 3, .int .i64 1, .int .i64 (ln : Int), .int .i64 dd, .int .i64 dr, .int .i64 di, .int .i64 db, .bool de, .bool false] #[.int .i64 s1, .bool cc1, .slice a1 n1 cap1, .string x1] #[.int .i64 s2, .bool cc2, .slice a2 n2 cap2, .string x2] 23 39 39)
  case first =>
    have k2 := X4.out.q.cell 2
    have z2 := X4.out.q.free 2
    simp only [List.getElem?_toArray, List.getElem?_cons_zero, List.getElem?_cons_succ] at k2
    rcases (show dl < 2 ∨ dl = 2 ∨ 2 < dl by omega) with hd | hd | hd
    · have Y : Hid (Bx3 w (w4.setCell ⟨A, 2, none⟩ (.int .i64 2)) A #[.int .i64 3, .int .i64 1, .int .i64 ((2 : Nat) : Int), .int .i64 dd, .int .i64 dr, .int .i64 di, .int .i64 db, .bool de, .bool false] #[.int .i64 s1, .bool cc1, .slice a1 n1 cap1, .string x1] #[.int .i64 s2, .bool cc2, .slice a2 n2 cap2, .string x2] 23 39 39) := show Bx3 _ _ _ _ _ _ _ _ _ from by
        have := X4.out.setq 2 (.int .i64 2)
        simpa using this
      go_wp2_with fail
      go_meet
      exact ⟨2, by decide, by decide, Y.out⟩
    · subst hd
      have Y : Hid (Bx3 w (w4.setCell ⟨A, 2, none⟩ (.int .i64 2)) A #[.int .i64 3, .int .i64 1, .int .i64 ((2 : Nat) : Int), .int .i64 dd, .int .i64 dr, .int .i64 di, .int .i64 db, .bool de, .bool false] #[.int .i64 s1, .bool cc1, .slice a1 n1 cap1, .string x1] #[.int .i64 s2, .bool cc2, .slice a2 n2 cap2, .string x2] 23 39 39) := show Bx3 _ _ _ _ _ _ _ _ _ from by
        have := X4.out.setq 2 (.int .i64 2)
        simpa using this
      go_wp2_with fail
      go_meet
      exact ⟨2, by decide, by decide, Y.out⟩
    · have Y : Hid (Bx3 w (w4.setCell ⟨A, 2, none⟩ (.int .i64 dl)) A #[.int .i64 3, .int .i64 1, .int .i64 dl, .int .i64 dd, .int .i64 dr, .int .i64 di, .int .i64 db, .bool de, .bool false] #[.int .i64 s1, .bool cc1, .slice a1 n1 cap1, .string x1] #[.int .i64 s2, .bool cc2, .slice a2 n2 cap2, .string x2] 23 39 39) := show Bx3 _ _ _ _ _ _ _ _ _ from by
        have := X4.out.setq 2 (.int .i64 dl)
        simpa using this
      go_wp2_with fail
      go_meet
      exact ⟨dl.toNat, by omega, by omega, by rw [Int.toNat_of_nonneg (by omega)]; exact Y.out⟩
  case rest =>
  obtain ⟨nn, hn2, hn8, X5'⟩ := hcut
  have X5 : Hid (Bx3 w wc A #[.int .i64 3, .int .i64 1, .int .i64 (nn : Int), .int .i64 dd, .int .i64 dr, .int .i64 di, .int .i64 db, .bool de, .bool false] #[.int .i64 s1, .bool cc1, .slice a1 n1 cap1, .string x1] #[.int .i64 s2, .bool cc2, .slice a2 n2 cap2, .string x2] 23 39 39) := X5'
  clear X5' X4
  have k3 := X5.out.q.cell 3
  have z3 := X5.out.q.free 3
  simp only [List.getElem?_toArray, List.getElem?_cons_zero, List.getElem?_cons_succ] at k3
  go_upto_region 9 with fail
  have X6 : Hid (Bx3 w (wc.setCell ⟨A, 3, none⟩ (.int .i64 64)) A #[.int .i64 3, .int .i64 1, .int .i64 (nn : Int), .int .i64 64, .int .i64 dr, .int .i64 di, .int .i64 db, .bool de, .bool false] #[.int .i64 s1, .bool cc1, .slice a1 n1 cap1, .string x1] #[.int .i64 s2, .bool cc2, .slice a2 n2 cap2, .string x2] 23 39 39) := show Bx3 _ _ _ _ _ _ _ _ _ from by
    have := X5.out.setq 3 (.int .i64 64)
    simpa using this
  clear X5 k3 z3
  generalize wc.setCell ⟨A, 3, none⟩ (.int .i64 64) = w6 at *
  have ft2 := fits_three ft (n := (nn : Int)) (by omega) (by omega)
  have hchk := G.chk_fits ft2
  have hNode : G.isN ⟨3, 1, nn, 64, dr, di, db, de, false⟩ 1 = true := G.isN_mk hchk (by decide) (show (1 : Int) < 3 * 1 by decide)
  clear ft ft2
  obtain ⟨U, Pt, Fd, GG, HG⟩ := trnF_of (T := telR ⟨3, 1, nn, 64, dr, di, db, de, false⟩ 1) (C := clsR ⟨3, 1, nn, 64, dr, di, db, de, false⟩) (n := nn) (Ls := fun i => (setP 2 (sP i)).ws) (fun i hi => (setP_wds (FP i hi).1 (FP i hi).2 (v := 2) (by decide) (by decide)).1) hn2 (cls_three hchk rfl) (fun i hi => by
    obtain ⟨-, f1, f2⟩ := setP_wds (FP i hi).1 (FP i hi).2 (v := 2) (by decide) (by decide)
    exact tel_east hchk f1 f2)
  have WCd : ∀ v, Calls Tryz.prog 12 #[.agg #[.int .i64 3, .int .i64 1, .int .i64 (nn : Int), .int .i64 64, .int .i64 dr, .int .i64 di, .int .i64 db, .bool de, .bool false], .int .i64 1] v fun e w' => ∃ p F, e = .returned (.pointer (some ⟨p, 0, none⟩)) ∧ Rt w' p ⟨3, 1, nn, 64, dr, di, db, de, false⟩ (U 0) F ∧ (∀ g, F g → v.heap.size ≤ g) ∧ Below v.heap.size v w' := fun v => by
    have := router_new ⟨3, 1, nn, 64, dr, di, db, de, false⟩ hchk 1 hNode v
    rw [show newRt (nn : Int).toNat (64 : Int).toNat 1 = U 0 from HG.nw] at this
    simpa [G.cfv, G.cfc] using this
  clear hchk hNode hl1 hl8
  generalize hc2 : (⟨3, 1, nn, 64, dr, di, db, de, false⟩ : G.Cf) = c2 at *
  clear hc2
  obtain ⟨k0, k1, k2, k3, k4, k5, k6, k7, k8⟩ := nine_cells X6.out.q
  go_wp2_with fail
  go_at_call 12
  with_reducible refine (WCd _).mono ?_
  rintro e w7 ⟨b, F0, rfl, nc, fc, bc⟩
  have L7 : Hid (RSt w6 w7 b c2 (U 0) F0) := show RSt w6 w7 b c2 _ F0 from ⟨nc, fc, bc⟩
  have X7 : Hid (Bx3 w w7 A #[.int .i64 3, .int .i64 1, .int .i64 (nn : Int), .int .i64 64, .int .i64 dr, .int .i64 di, .int .i64 db, .bool de, .bool false] #[.int .i64 s1, .bool cc1, .slice a1 n1 cap1, .string x1] #[.int .i64 s2, .bool cc2, .slice a2 n2 cap2, .string x2] 23 39 39) := X6.out.next bc
  clear WCd nc fc bc k0 k1 k2 k3 k4 k5 k6 k7 k8
  go_upto_region 13 with fail
  have L8 : Hid (RSt w6 (w7.alloc (.cells #[.slice none 0 0, .slice none 0 0] 86)) b c2 (U 0) F0) := L7.out.alloc _
  have X8 : Hid (Bx3 w (w7.alloc (.cells #[.slice none 0 0, .slice none 0 0] 86)) A #[.int .i64 3, .int .i64 1, .int .i64 (nn : Int), .int .i64 64, .int .i64 dr, .int .i64 di, .int .i64 db, .bool de, .bool false] #[.int .i64 s1, .bool cc1, .slice a1 n1 cap1, .string x1] #[.int .i64 s2, .bool cc2, .slice a2 n2 cap2, .string x2] 23 39 39) := X7.out.next ((Below.refl _ _).alloc (Nat.le_refl _) _)
  have A8 : Hid (Bk (w7.alloc (.cells #[.slice none 0 0, .slice none 0 0] 86)) w7.heap.size #[.slice none 0 0, .slice none 0 0] 86) := Bk.new _ _ _
  have O8 : Hid (¬ F0 w7.heap.size ∧ w6.heap.size ≤ w7.heap.size) := show _ ∧ _ from ⟨L7.out.off (Nat.le_refl _), L7.out.size⟩
  clear L7 X7
  generalize w7.alloc (.cells #[.slice none 0 0, .slice none 0 0] 86) = w8 at *
  generalize w7.heap.size = wb at *
  obtain ⟨p0, p1, p2, p3⟩ := four_cells X8.out.t
  obtain ⟨q0, q1, q2, q3⟩ := four_cells X8.out.p
  go_upto_region 14 with fail
  obtain ⟨Ls, hLs⟩ : ∃ Ls : Nat → List Nat, Ls = fun i => (setP 2 (sP i)).ws := ⟨_, rfl⟩
  have C9 : Hid (TnS w6 (w8.alloc (.cells #[.int .i64 s1, .bool cc1, .slice a1 n1 cap1, .string x1, .int .i64 s2, .bool cc2, .slice a2 n2 cap2, .string x2] 39)) w8.heap.size wb #[.int .i64 s1, .bool cc1, .slice a1 n1 cap1, .string x1, .int .i64 s2, .bool cc2, .slice a2 n2 cap2, .string x2] (fun _ => .slice none 0 0) Ls 0 b c2 (U 0) F0) := show TnS _ _ _ _ _ _ _ _ _ _ _ _ from ⟨L8.out.alloc _, Bk.new _ _ _, L8.out.off (Nat.le_refl _), A8.out.alloc _, O8.out.1, fun j hj => absurd hj (Nat.not_lt_zero _)⟩
  have HSW : Hid (w8.heap.size ≠ wb ∧ w6.heap.size ≤ wb) := show _ ∧ _ from ⟨by have := A8.out.lt; omega, O8.out.2⟩
  clear p0 p1 p2 p3 q0 q1 q2 q3 L8 X8 A8 O8
  generalize w8.alloc (.cells #[.int .i64 s1, .bool cc1, .slice a1 n1 cap1, .string x1, .int .i64 s2, .bool cc2, .slice a2 n2 cap2, .string x2] 39) = w9 at *
  generalize w8.heap.size = sb at *
  have HB6 : Hid (Below A w w6) := X6.out.b
  have HA6 : Hid (A ≤ w6.heap.size) := show A ≤ _ from by have := X6.out.lt; omega
  have HT6 : Hid (G.Tabs w6 ∧ G.Steps w6) := show _ ∧ _ from ⟨HT.out.1.next (by rw [HAW.out]; exact X6.out.b), HT.out.2.next (by rw [HAW.out]; exact X6.out.b)⟩
  clear X6 HT
  have HGT : Hid (TrnF (telR c2 1) (clsR c2) nn Ls U Pt Fd GG) := show TrnF _ _ _ _ _ _ _ _ from by rw [hLs]; exact HG
  have hW : Hid (∀ i, i < 2 → 2 ≤ (Ls i).length ∧ (Ls i).length ≤ 17) := show _ from fun i hi => by
    have W := (setP_wds (FP i hi).1 (FP i hi).2 (v := 2) (by decide) (by decide)).1
    rw [hLs]
    exact ⟨W.len, W.small⟩
  have FPH : Hid (∀ i, i < 2 → Fine (sP i) ∧ (sP i).c = false) := FP
  have HLs : Hid (∀ i, (setP 2 (sP i)).ws = Ls i) := show _ from fun i => by rw [hLs]
  clear HG FP hLs
  go_wp2_with fail
  go_loopw [10] (fun xi wr => ∃ (i : Nat) (F : Nat → Prop) (VS : Nat → Value), i ≤ 2 ∧ xi = .int .i64 i ∧ TnS w6 wr sb wb #[.int .i64 s1, .bool cc1, .slice a1 n1 cap1, .string x1, .int .i64 s2, .bool cc2, .slice a2 n2 cap2, .string x2] VS Ls i b c2 (U i) F) (fun xi _ => 2 - (RowKit.intOf xi).toNat)
  case atStart => exact ⟨0, F0, _, by decide, rfl, C9.out⟩
  case round =>
    obtain ⟨i, F, VS, hi, rfl, l⟩ := hrel
    clear C9
    have LI : Hid (TnS w6 wr sb wb #[.int .i64 s1, .bool cc1, .slice a1 n1 cap1, .string x1, .int .i64 s2, .bool cc2, .slice a2 n2 cap2, .string x2] VS Ls i b c2 (U i) F) := l
    clear l
    by_cases hex : i < 2
    case neg =>
      obtain rfl : i = 2 := by omega
      have e1 : ¬ ((2 : Nat) : Int) < 2 := by decide
      have hn : 0 < nn := by omega
      have D1 : Hid ((0 : Nat) / nn = 0 ∧ (0 : Nat) % nn = 0 ∧ 2 * nn / nn = 2 ∧ 2 * nn % nn = 0) := show _ ∧ _ ∧ _ ∧ _ from ⟨Nat.zero_div _, Nat.zero_mod _, Nat.mul_div_cancel _ hn, Nat.mul_mod_left 2 nn⟩
      have C1 : Calls Tryz.prog 27 #[.pointer (some ⟨b, 0, none⟩), .int .i64 1, .int .i64 0] wr fun e w' => e = .returned (.tuple #[.int .i64 0, .int .i64 0, .bool true]) ∧ Below wr.heap.size wr w' := by
        have := router_owner LI.out.l.rt 1 0
        rw [HGT.out.own1] at this
        exact this
      clear CE GC FPH
      go_wp2_with fail
      go_at_call 27
      with_reducible refine C1.mono ?_
      rintro e v1 ⟨rfl, b1⟩
      have L1 : Hid (TnS w6 v1 sb wb #[.int .i64 s1, .bool cc1, .slice a1 n1 cap1, .string x1, .int .i64 s2, .bool cc2, .slice a2 n2 cap2, .string x2] VS Ls 2 b c2 (U 2) F) := LI.out.next b1
      clear C1 LI b1
      have C2 : Calls Tryz.prog 27 #[.pointer (some ⟨b, 0, none⟩), .int .i64 1, .int .i64 1] v1 fun e w' => e = .returned (.tuple #[.int .i64 2, .int .i64 0, .bool true]) ∧ Below v1.heap.size v1 w' := by
        have := router_owner L1.out.l.rt 1 1
        rw [HGT.out.own2] at this
        exact this
      go_wp2_with fail
      go_at_call 27
      with_reducible refine C2.mono ?_
      rintro e v2 ⟨rfl, b2⟩
      have L2 : Hid (TnS w6 v2 sb wb #[.int .i64 s1, .bool cc1, .slice a1 n1 cap1, .string x1, .int .i64 s2, .bool cc2, .slice a2 n2 cap2, .string x2] VS Ls 2 b c2 (U 2) F) := L1.out.next b2
      clear C2 L1 b2
      have hl0 : Hid (∀ j, j < 2 → 0 < (Ls j).length) := show _ from fun j hj => by have := hW.out j hj; omega
      obtain ⟨a0, cp0, hV0, hc0, hr0, ho0, hb0⟩ := L2.out.r 0 (by decide)
      obtain ⟨a9, cp9, hV9, hc9, hr9, ho9, hb9⟩ := L2.out.r 1 (by decide)
      obtain ⟨g0, f0, e90, g0l, -⟩ := hr0 0 _ (vw_at (hl0.out 0 (by decide)))
      obtain ⟨g9, f9, e99, g9l, -⟩ := hr9 0 _ (vw_at (hl0.out 1 (by decide)))
      subst e90 e99
      obtain ⟨L0, hL0⟩ : ∃ L, Ls 0 = L := ⟨_, rfl⟩
      obtain ⟨L9, hL9⟩ : ∃ L, Ls 1 = L := ⟨_, rfl⟩
      obtain ⟨m0, hm0⟩ : ∃ m, L0.length = m := ⟨_, rfl⟩
      obtain ⟨m9, hm9⟩ : ∃ m, L9.length = m := ⟨_, rfl⟩
      rw [hL0, hm0] at hV0 hc0
      rw [hL9, hm9] at hV9 hc9
      have HLL : Hid (Ls 0 = L0 ∧ Ls 1 = L9 ∧ L0.length = m0 ∧ L9.length = m9) := show _ ∧ _ ∧ _ ∧ _ from ⟨hL0, hL9, hm0, hm9⟩
      have HVV : Hid (VS 0 = .slice (some ⟨g0, f0, none⟩) m0 cp0 ∧ VS 1 = .slice (some ⟨g9, f9, none⟩) m9 cp9) := show _ ∧ _ from ⟨hV0, hV9⟩
      have hm17 : 2 ≤ m0 ∧ m0 ≤ 17 ∧ 2 ≤ m9 ∧ m9 ≤ 17 := by
        have a := hW.out 0 (by decide)
        have b := hW.out 1 (by decide)
        rw [hL0, hm0] at a
        rw [hL9, hm9] at b
        exact ⟨a.1, a.2, b.1, b.2⟩
      have HGB : Hid (g0 < v2.heap.size ∧ g9 < v2.heap.size) := show _ ∧ _ from ⟨g0l, g9l⟩
      have HR0 : Hid (∀ v S F, TnS w6 v sb wb #[.int .i64 s1, .bool cc1, .slice a1 n1 cap1, .string x1, .int .i64 s2, .bool cc2, .slice a2 n2 cap2, .string x2] VS Ls 2 b c2 S F → ∀ j, j < m0 → v.cell? ⟨g0, f0 + j, none⟩ = some (.int .u64 ((L0.getD j 0 : Nat) : Int))) := show _ from fun v S F h j hj => by
        obtain ⟨a, cap, h1, -, h3, -, -⟩ := h.r 0 (by decide)
        rw [hV0] at h1
        injection h1 with h1 h1b h1c
        subst h1
        rw [hL0] at h3
        obtain ⟨g, o, e, -, hc⟩ := h3 j _ (vw_at (by rw [hm0]; exact hj))
        simp only [Option.some.injEq, Addr.mk.injEq, and_true] at e
        obtain ⟨rfl, rfl⟩ := e
        exact hc
      have HR9 : Hid (∀ v S F, TnS w6 v sb wb #[.int .i64 s1, .bool cc1, .slice a1 n1 cap1, .string x1, .int .i64 s2, .bool cc2, .slice a2 n2 cap2, .string x2] VS Ls 2 b c2 S F → ∀ j, j < m9 → v.cell? ⟨g9, f9 + j, none⟩ = some (.int .u64 ((L9.getD j 0 : Nat) : Int))) := show _ from fun v S F h j hj => by
        obtain ⟨a, cap, h1, -, h3, -, -⟩ := h.r 1 (by decide)
        rw [hV9] at h1
        injection h1 with h1 h1b h1c
        subst h1
        rw [hL9] at h3
        obtain ⟨g, o, e, -, hc⟩ := h3 j _ (vw_at (by rw [hm9]; exact hj))
        simp only [Option.some.injEq, Addr.mk.injEq, and_true] at e
        obtain ⟨rfl, rfl⟩ := e
        exact hc
      have HRV : Hid (∀ j, j < 2 → ∀ a n cap, VS j = .slice a n cap → ∀ y, a = some y → y.block = g0 ∨ y.block = g9) := show _ from fun j hj a n cap h y hy => by
        rcases (show j = 0 ∨ j = 1 by omega) with rfl | rfl
        · rw [hV0] at h
          injection h with h h' h''
          subst h
          cases hy
          exact Or.inl rfl
        · rw [hV9] at h
          injection h with h h' h''
          subst h
          cases hy
          exact Or.inr rfl
      clear hV0 hV9 hr0 hr9 ho0 ho9 hb0 hb9 g0l g9l hL0 hL9 hm0 hm9 hc0 hc9
      go_upto_region 35 with fail
      have L3 : Hid (TnS w6 (v2.alloc (.cells #[.int .i64 0, .int .i64 0] 87)) sb wb #[.int .i64 s1, .bool cc1, .slice a1 n1 cap1, .string x1, .int .i64 s2, .bool cc2, .slice a2 n2 cap2, .string x2] VS Ls 2 b c2 (U 2) F) := L2.out.next ((Below.refl _ _).alloc (Nat.le_refl _) _)
      have A3 : Hid (Bk (v2.alloc (.cells #[.int .i64 0, .int .i64 0] 87)) v2.heap.size #[.int .i64 0, .int .i64 0] 87) := Bk.new _ _ _
      have O3 : Hid (¬ F v2.heap.size) := show ¬ F _ from L2.out.l.off (Nat.le_refl _)
      have HAB : Hid (w6.heap.size ≤ v2.heap.size ∧ sb ≠ v2.heap.size ∧ wb ≠ v2.heap.size ∧ g0 ≠ v2.heap.size ∧ g9 ≠ v2.heap.size) := show _ ∧ _ ∧ _ ∧ _ ∧ _ from ⟨L2.out.l.size, by have := L2.out.s.lt; omega, by have := L2.out.w.lt; omega, by have := HGB.out.1; omega, by have := HGB.out.2; omega⟩
      have HRB : Hid (∀ j, j < 2 → ∀ a n cap, VS j = .slice a n cap → ∀ y, a = some y → y.block ≠ v2.heap.size) := show _ from fun j hj a n cap h y hy => by
        rcases HRV.out j hj a n cap h y hy with e | e
        · rw [e]; exact HAB.out.2.2.2.1
        · rw [e]; exact HAB.out.2.2.2.2
      clear L2 HGB HRV
      generalize v2.alloc (.cells #[.int .i64 0, .int .i64 0] 87) = v3 at *
      generalize v2.heap.size = ab at *
      go_wp2_with fail
      go_loopw [21] (fun x wr => ∃ (i1 i2 : Nat) (last : Int) (S : RS) (F : Nat → Prop), i1 ≤ m0 ∧ i2 ≤ m9 ∧ x = .int .i64 last ∧ GG i1 i2 last S ∧ TnS w6 wr sb wb #[.int .i64 s1, .bool cc1, .slice a1 n1 cap1, .string x1, .int .i64 s2, .bool cc2, .slice a2 n2 cap2, .string x2] VS Ls 2 b c2 S F ∧ Bk wr ab #[.int .i64 (i1 : Int), .int .i64 (i2 : Int)] 87 ∧ ¬ F ab) (fun _ wr => m0 + m9 - (cellN wr ⟨ab, 0, none⟩ + cellN wr ⟨ab, 1, none⟩))
      case atStart => exact ⟨0, 0, -1, U 2, F, Nat.zero_le _, Nat.zero_le _, rfl, HGT.out.beg, L3.out, A3.out, O3.out⟩
      case round =>
        obtain ⟨i1, i2, last, S, F4, h1, h2, rfl, hg, l, hab, hof⟩ := hrel
        clear L3 A3 O3
        have LK : Hid (TnS w6 wr sb wb #[.int .i64 s1, .bool cc1, .slice a1 n1 cap1, .string x1, .int .i64 s2, .bool cc2, .slice a2 n2 cap2, .string x2] VS Ls 2 b c2 S F4) := l
        have AB : Hid (Bk wr ab #[.int .i64 (i1 : Int), .int .i64 (i2 : Int)] 87) := hab
        have OF : Hid (¬ F4 ab) := hof
        have HG4 : Hid (GG i1 i2 last S) := hg
        clear l hab hof hg
        have c0 : wr.cell? ⟨ab, 0, none⟩ = some (.int .i64 (i1 : Int)) := AB.out.cell 0
        have c1 : wr.cell? ⟨ab, 1, none⟩ = some (.int .i64 (i2 : Int)) := AB.out.cell 1
        have d0 : wr.cell? ⟨wb, 0, none⟩ = some (.slice (some ⟨g0, f0, none⟩) m0 cp0) := by rw [← HVV.out.1]; exact LK.out.w.cell 0
        have d1 : wr.cell? ⟨wb, 1, none⟩ = some (.slice (some ⟨g9, f9, none⟩) m9 cp9) := by rw [← HVV.out.2]; exact LK.out.w.cell 1
        by_cases hend : i1 < m0 ∨ i2 < m9
        case neg =>
          have t1 : ¬ (i1 : Int) < (m0 : Int) := by omega
          have t2 : ¬ (i2 : Int) < (m9 : Int) := by omega
          have hI : idleRt S = true := by
            refine HGT.out.fin last S ?_
            rw [HLL.out.1, HLL.out.2.1, HLL.out.2.2.1, HLL.out.2.2.2]
            obtain rfl : i1 = m0 := by omega
            obtain rfl : i2 = m9 := by omega
            exact HG4.out
          have C6 := router_idle LK.out.l.rt
          rw [hI] at C6
          clear hI
          go_wp2_with (go_at_call 32; with_reducible refine C6.mono ?_; rintro e v7 ⟨rfl, hb7⟩)
          go_ret
          exact ⟨rfl, by
            rw [HAW.out]
            exact HB6.out.trans ((LK.out.next hb7).l.below.mono HA6.out)⟩
        obtain ⟨S', o', kk, ms, sn, hcase⟩ := HGT.out.step i1 i2 last S (by rw [HLL.out.1, HLL.out.2.2.1]; exact h1) (by rw [HLL.out.2.1, HLL.out.2.2.2]; exact h2) (by rw [HLL.out.1, HLL.out.2.1, HLL.out.2.2.1, HLL.out.2.2.2]; exact hend) HG4.out
        rw [HLL.out.1, HLL.out.2.1, HLL.out.2.2.1, HLL.out.2.2.2] at hcase
        have C6 := router_move LK.out.l.rt 1 _ _ _ (all_may wr)
        rw [ms, sn] at C6
        clear ms sn HG4 hend
        obtain ⟨pp, pl, pw, pc1, pe⟩ := o'
        simp only [mvc] at C6 hcase
        rcases hcase with ⟨rfl, q1, rfl, q3, q4⟩ | ⟨rfl, q1, rfl, q3, q4⟩
        · by_cases hla : last = 0
          · subst hla
            have hoth : ¬ i2 < m9 := fun c => q3 ⟨rfl, c⟩
            have C7 : Calls Tryz.prog 24 #[.pointer (some ⟨b, 0, none⟩), .int .i64 1, .func (.func 31) #[] #[]] wr fun e w' => ∃ F', e = .returned (.tuple #[.agg #[.int .i64 pp, .int .i64 pl, .int .u64 ((L0.getD i1 0 : Nat) : Int), .bool pc1, .bool pe, .int .i64 0, .int .i64 0], .bool true]) ∧ Rt w' b c2 S' F' ∧ Gr F4 wr w' F' := by
              simp only [D1.out.1, D1.out.2.1] at C6
              exact C6
            clear C6
            have q5 : (0 : Int) ≤ (i1 : Int) := by omega
            have q6 : (i1 : Int) < (m0 : Int) := by omega
            have q7 : ¬ (m0 : Int) ≤ (i1 : Int) := by omega
            have q8 : decide (m0 ≤ i1) = false := by simpa using q1
            have q9 : IntKind.i64.wrap ((i1 : Int) + 1) = (i1 : Int) + 1 := IntWalk.i64_in _ (by omega)
            have qc : ¬ (i2 : Int) < (m9 : Int) := by omega
            have qd : decide (i2 < m9) = false := by simpa using hoth
            have GS : Hid (GG (i1 + 1) (i2) 0 S') := q4
            have HS : Hid (∀ w' F', Rt w' b c2 S' F' → Gr F4 wr w' F' → TnS w6 w' sb wb #[.int .i64 s1, .bool cc1, .slice a1 n1 cap1, .string x1, .int .i64 s2, .bool cc2, .slice a2 n2 cap2, .string x2] VS Ls 2 b c2 S' F' ∧ Bk w' ab #[.int .i64 (i1 : Int), .int .i64 (i2 : Int)] 87 ∧ ¬ F' ab) := show _ from fun w' F' n g => ⟨LK.out.step hl0.out n g, AB.out.gr g OF.out, g.off OF.out AB.out.lt⟩
            have N0 : Hid (cellN wr ⟨ab, 0, none⟩ = i1 ∧ cellN wr ⟨ab, 1, none⟩ = i2) := show _ ∧ _ from ⟨by unfold cellN; rw [c0]; simp, by unfold cellN; rw [c1]; simp⟩
            have HQ : Hid (i1 < m0) := q1
            obtain ⟨y, hy⟩ : ∃ y : Int, ((L0.getD i1 0 : Nat) : Int) = y := ⟨_, rfl⟩
            have HY : Hid (((L0.getD i1 0 : Nat) : Int) = y) := hy
            rw [hy] at C7
            clear hy q1 q3 q4 LK AB OF
            go_upto_region 37 with (go_at_call 24; with_reducible refine C7.mono ?_; rintro e v5 ⟨F5, rfl, n5, g5⟩)
            obtain ⟨l5, a5, o5⟩ := HS.out v5 F5 n5 g5
            have L6 : Hid (TnS w6 (v5.alloc (.cells #[.int .i64 pp, .int .i64 pl, .int .u64 y, .bool pc1, .bool pe, .int .i64 0, .int .i64 0] 63)) sb wb #[.int .i64 s1, .bool cc1, .slice a1 n1 cap1, .string x1, .int .i64 s2, .bool cc2, .slice a2 n2 cap2, .string x2] VS Ls 2 b c2 S' F5) := l5.next ((Below.refl _ _).alloc (Nat.le_refl _) _)
            have A6 : Hid (Bk (v5.alloc (.cells #[.int .i64 pp, .int .i64 pl, .int .u64 y, .bool pc1, .bool pe, .int .i64 0, .int .i64 0] 63)) ab #[.int .i64 (i1 : Int), .int .i64 (i2 : Int)] 87) := a5.alloc _
            have O6 : Hid (¬ F5 ab) := o5
            have M6 : Bk (v5.alloc (.cells #[.int .i64 pp, .int .i64 pl, .int .u64 y, .bool pc1, .bool pe, .int .i64 0, .int .i64 0] 63)) v5.heap.size #[.int .i64 pp, .int .i64 pl, .int .u64 y, .bool pc1, .bool pe, .int .i64 0, .int .i64 0] 63 := Bk.new _ _ _
            clear C7 HS n5 g5 l5 a5 o5 c0 c1 d0 d1
            generalize v5.alloc (.cells #[.int .i64 pp, .int .i64 pl, .int .u64 y, .bool pc1, .bool pe, .int .i64 0, .int .i64 0] 63) = v6 at *
            generalize v5.heap.size = kb at *
            have kx2 := M6.cell 2
            have kx5 := M6.cell 5
            simp only [List.getElem?_toArray, List.getElem?_cons_zero, List.getElem?_cons_succ] at kx2 kx5
            have c0 : v6.cell? ⟨ab, 0, none⟩ = some (.int .i64 (i1 : Int)) := A6.out.cell 0
            have c1 : v6.cell? ⟨ab, 1, none⟩ = some (.int .i64 (i2 : Int)) := A6.out.cell 1
            have d0 : v6.cell? ⟨wb, 0, none⟩ = some (.slice (some ⟨g0, f0, none⟩) m0 cp0) := by rw [← HVV.out.1]; exact L6.out.w.cell 0
            have d1 : v6.cell? ⟨wb, 1, none⟩ = some (.slice (some ⟨g9, f9, none⟩) m9 cp9) := by rw [← HVV.out.2]; exact L6.out.w.cell 1
            have r0 : v6.cell? ⟨g0, f0 + i1, none⟩ = some (.int .u64 y) := by rw [← HY.out]; exact HR0.out v6 S' F5 L6.out i1 HQ.out
            clear M6
            go_upto_region 38 with fail
            go_quiet (fail)
            have L7 : Hid (TnS w6 (v6.drewN nq) sb wb #[.int .i64 s1, .bool cc1, .slice a1 n1 cap1, .string x1, .int .i64 s2, .bool cc2, .slice a2 n2 cap2, .string x2] VS Ls 2 b c2 S' F5) := L6.out.next (dn (Below.refl _ _) nq)
            have A7 : Hid (Bk (v6.drewN nq) ab #[.int .i64 (i1 : Int), .int .i64 (i2 : Int)] 87) := A6.out.next (dn (Below.refl _ _) nq)
            clear kx2 kx5 c0 c1 d0 d1 r0 L6 A6
            generalize v6.drewN nq = v7 at *
            have c0 : v7.cell? ⟨ab, 0, none⟩ = some (.int .i64 (i1 : Int)) := A7.out.cell 0
            have c1 : v7.cell? ⟨ab, 1, none⟩ = some (.int .i64 (i2 : Int)) := A7.out.cell 1
            have z0 := A7.out.free 0
            have z1 := A7.out.free 1
            clear q5 q6 q7 q8
            go_upto_region 41 with fail
            have A8 : Hid (Bk (v7.setCell ⟨ab, 0, none⟩ (.int .i64 ((i1 : Int) + 1))) ab #[.int .i64 ((i1 + 1 : Nat) : Int), .int .i64 ((i2 : Nat) : Int)] 87) := show Bk _ _ _ _ from by
              have := A7.out.set 0 (.int .i64 ((i1 : Int) + 1))
              simpa using this
            have L8 : Hid (TnS w6 (v7.setCell ⟨ab, 0, none⟩ (.int .i64 ((i1 : Int) + 1))) sb wb #[.int .i64 s1, .bool cc1, .slice a1 n1 cap1, .string x1, .int .i64 s2, .bool cc2, .slice a2 n2 cap2, .string x2] VS Ls 2 b c2 S' F5) := L7.out.far O6.out HAB.out.1 HAB.out.2.1 HAB.out.2.2.1 HRB.out
            have N8 : Hid (cellN (v7.setCell ⟨ab, 0, none⟩ (.int .i64 ((i1 : Int) + 1))) ⟨ab, 0, none⟩ = i1 + 1 ∧ cellN (v7.setCell ⟨ab, 0, none⟩ (.int .i64 ((i1 : Int) + 1))) ⟨ab, 1, none⟩ = i2) := show _ ∧ _ from ⟨by unfold cellN; rw [A8.out.cell]; simp, by unfold cellN; rw [A8.out.cell]; simp⟩
            clear c0 c1 z0 z1 L7 A7
            generalize v7.setCell ⟨ab, 0, none⟩ (.int .i64 ((i1 : Int) + 1)) = v8 at *
            go_wp2
            go_roundw
            case rel => exact ⟨i1 + 1, i2, 0, S', F5, by have := HQ.out; omega, by have := HQ.out; omega, rfl, GS.out, L8.out, A8.out, O6.out⟩
            case measure =>
              have := HQ.out
              rw [N0.out.1, N0.out.2, N8.out.1, N8.out.2]
              omega
          · skip
            have C7 : Calls Tryz.prog 24 #[.pointer (some ⟨b, 0, none⟩), .int .i64 1, .func (.func 31) #[] #[]] wr fun e w' => ∃ F', e = .returned (.tuple #[.agg #[.int .i64 pp, .int .i64 pl, .int .u64 ((L0.getD i1 0 : Nat) : Int), .bool pc1, .bool pe, .int .i64 0, .int .i64 0], .bool true]) ∧ Rt w' b c2 S' F' ∧ Gr F4 wr w' F' := by
              simp only [D1.out.1, D1.out.2.1] at C6
              exact C6
            clear C6
            have q5 : (0 : Int) ≤ (i1 : Int) := by omega
            have q6 : (i1 : Int) < (m0 : Int) := by omega
            have q7 : ¬ (m0 : Int) ≤ (i1 : Int) := by omega
            have q8 : decide (m0 ≤ i1) = false := by simpa using q1
            have q9 : IntKind.i64.wrap ((i1 : Int) + 1) = (i1 : Int) + 1 := IntWalk.i64_in _ (by omega)
            have qb : ((0 : Int) == last) = false := by simpa using fun c : (0 : Int) = last => hla c.symm
            have GS : Hid (GG (i1 + 1) (i2) 0 S') := q4
            have HS : Hid (∀ w' F', Rt w' b c2 S' F' → Gr F4 wr w' F' → TnS w6 w' sb wb #[.int .i64 s1, .bool cc1, .slice a1 n1 cap1, .string x1, .int .i64 s2, .bool cc2, .slice a2 n2 cap2, .string x2] VS Ls 2 b c2 S' F' ∧ Bk w' ab #[.int .i64 (i1 : Int), .int .i64 (i2 : Int)] 87 ∧ ¬ F' ab) := show _ from fun w' F' n g => ⟨LK.out.step hl0.out n g, AB.out.gr g OF.out, g.off OF.out AB.out.lt⟩
            have N0 : Hid (cellN wr ⟨ab, 0, none⟩ = i1 ∧ cellN wr ⟨ab, 1, none⟩ = i2) := show _ ∧ _ from ⟨by unfold cellN; rw [c0]; simp, by unfold cellN; rw [c1]; simp⟩
            have HQ : Hid (i1 < m0) := q1
            obtain ⟨y, hy⟩ : ∃ y : Int, ((L0.getD i1 0 : Nat) : Int) = y := ⟨_, rfl⟩
            have HY : Hid (((L0.getD i1 0 : Nat) : Int) = y) := hy
            rw [hy] at C7
            clear hy q1 q3 q4 LK AB OF
            go_upto_region 37 with (go_at_call 24; with_reducible refine C7.mono ?_; rintro e v5 ⟨F5, rfl, n5, g5⟩)
            obtain ⟨l5, a5, o5⟩ := HS.out v5 F5 n5 g5
            have L6 : Hid (TnS w6 (v5.alloc (.cells #[.int .i64 pp, .int .i64 pl, .int .u64 y, .bool pc1, .bool pe, .int .i64 0, .int .i64 0] 63)) sb wb #[.int .i64 s1, .bool cc1, .slice a1 n1 cap1, .string x1, .int .i64 s2, .bool cc2, .slice a2 n2 cap2, .string x2] VS Ls 2 b c2 S' F5) := l5.next ((Below.refl _ _).alloc (Nat.le_refl _) _)
            have A6 : Hid (Bk (v5.alloc (.cells #[.int .i64 pp, .int .i64 pl, .int .u64 y, .bool pc1, .bool pe, .int .i64 0, .int .i64 0] 63)) ab #[.int .i64 (i1 : Int), .int .i64 (i2 : Int)] 87) := a5.alloc _
            have O6 : Hid (¬ F5 ab) := o5
            have M6 : Bk (v5.alloc (.cells #[.int .i64 pp, .int .i64 pl, .int .u64 y, .bool pc1, .bool pe, .int .i64 0, .int .i64 0] 63)) v5.heap.size #[.int .i64 pp, .int .i64 pl, .int .u64 y, .bool pc1, .bool pe, .int .i64 0, .int .i64 0] 63 := Bk.new _ _ _
            clear C7 HS n5 g5 l5 a5 o5 c0 c1 d0 d1
            generalize v5.alloc (.cells #[.int .i64 pp, .int .i64 pl, .int .u64 y, .bool pc1, .bool pe, .int .i64 0, .int .i64 0] 63) = v6 at *
            generalize v5.heap.size = kb at *
            have kx2 := M6.cell 2
            have kx5 := M6.cell 5
            simp only [List.getElem?_toArray, List.getElem?_cons_zero, List.getElem?_cons_succ] at kx2 kx5
            have c0 : v6.cell? ⟨ab, 0, none⟩ = some (.int .i64 (i1 : Int)) := A6.out.cell 0
            have c1 : v6.cell? ⟨ab, 1, none⟩ = some (.int .i64 (i2 : Int)) := A6.out.cell 1
            have d0 : v6.cell? ⟨wb, 0, none⟩ = some (.slice (some ⟨g0, f0, none⟩) m0 cp0) := by rw [← HVV.out.1]; exact L6.out.w.cell 0
            have d1 : v6.cell? ⟨wb, 1, none⟩ = some (.slice (some ⟨g9, f9, none⟩) m9 cp9) := by rw [← HVV.out.2]; exact L6.out.w.cell 1
            have r0 : v6.cell? ⟨g0, f0 + i1, none⟩ = some (.int .u64 y) := by rw [← HY.out]; exact HR0.out v6 S' F5 L6.out i1 HQ.out
            clear M6
            go_upto_region 38 with fail
            go_quiet (fail)
            have L7 : Hid (TnS w6 (v6.drewN nq) sb wb #[.int .i64 s1, .bool cc1, .slice a1 n1 cap1, .string x1, .int .i64 s2, .bool cc2, .slice a2 n2 cap2, .string x2] VS Ls 2 b c2 S' F5) := L6.out.next (dn (Below.refl _ _) nq)
            have A7 : Hid (Bk (v6.drewN nq) ab #[.int .i64 (i1 : Int), .int .i64 (i2 : Int)] 87) := A6.out.next (dn (Below.refl _ _) nq)
            clear kx2 kx5 c0 c1 d0 d1 r0 L6 A6
            generalize v6.drewN nq = v7 at *
            have c0 : v7.cell? ⟨ab, 0, none⟩ = some (.int .i64 (i1 : Int)) := A7.out.cell 0
            have c1 : v7.cell? ⟨ab, 1, none⟩ = some (.int .i64 (i2 : Int)) := A7.out.cell 1
            have z0 := A7.out.free 0
            have z1 := A7.out.free 1
            clear q5 q6 q7 q8
            go_upto_region 41 with fail
            have A8 : Hid (Bk (v7.setCell ⟨ab, 0, none⟩ (.int .i64 ((i1 : Int) + 1))) ab #[.int .i64 ((i1 + 1 : Nat) : Int), .int .i64 ((i2 : Nat) : Int)] 87) := show Bk _ _ _ _ from by
              have := A7.out.set 0 (.int .i64 ((i1 : Int) + 1))
              simpa using this
            have L8 : Hid (TnS w6 (v7.setCell ⟨ab, 0, none⟩ (.int .i64 ((i1 : Int) + 1))) sb wb #[.int .i64 s1, .bool cc1, .slice a1 n1 cap1, .string x1, .int .i64 s2, .bool cc2, .slice a2 n2 cap2, .string x2] VS Ls 2 b c2 S' F5) := L7.out.far O6.out HAB.out.1 HAB.out.2.1 HAB.out.2.2.1 HRB.out
            have N8 : Hid (cellN (v7.setCell ⟨ab, 0, none⟩ (.int .i64 ((i1 : Int) + 1))) ⟨ab, 0, none⟩ = i1 + 1 ∧ cellN (v7.setCell ⟨ab, 0, none⟩ (.int .i64 ((i1 : Int) + 1))) ⟨ab, 1, none⟩ = i2) := show _ ∧ _ from ⟨by unfold cellN; rw [A8.out.cell]; simp, by unfold cellN; rw [A8.out.cell]; simp⟩
            clear c0 c1 z0 z1 L7 A7
            generalize v7.setCell ⟨ab, 0, none⟩ (.int .i64 ((i1 : Int) + 1)) = v8 at *
            go_wp2
            go_roundw
            case rel => exact ⟨i1 + 1, i2, 0, S', F5, by have := HQ.out; omega, by have := HQ.out; omega, rfl, GS.out, L8.out, A8.out, O6.out⟩
            case measure =>
              have := HQ.out
              rw [N0.out.1, N0.out.2, N8.out.1, N8.out.2]
              omega
        · by_cases hla : last = 1
          · subst hla
            have hoth : ¬ i1 < m0 := fun c => q3 ⟨rfl, c⟩
            have C7 : Calls Tryz.prog 24 #[.pointer (some ⟨b, 0, none⟩), .int .i64 1, .func (.func 31) #[] #[]] wr fun e w' => ∃ F', e = .returned (.tuple #[.agg #[.int .i64 pp, .int .i64 pl, .int .u64 ((L9.getD i2 0 : Nat) : Int), .bool pc1, .bool pe, .int .i64 2, .int .i64 0], .bool true]) ∧ Rt w' b c2 S' F' ∧ Gr F4 wr w' F' := by
              simp only [D1.out.2.2.1, D1.out.2.2.2] at C6
              exact C6
            clear C6
            have q5 : (0 : Int) ≤ (i2 : Int) := by omega
            have q6 : (i2 : Int) < (m9 : Int) := by omega
            have q7 : ¬ (m9 : Int) ≤ (i2 : Int) := by omega
            have q8 : decide (m9 ≤ i2) = false := by simpa using q1
            have q9 : IntKind.i64.wrap ((i2 : Int) + 1) = (i2 : Int) + 1 := IntWalk.i64_in _ (by omega)
            have qa : ¬ (i1 : Int) < (m0 : Int) := by omega
            have qc : ¬ (i1 : Int) < (m0 : Int) := by omega
            have qd : decide (i1 < m0) = false := by simpa using hoth
            have GS : Hid (GG (i1) (i2 + 1) 1 S') := q4
            have HS : Hid (∀ w' F', Rt w' b c2 S' F' → Gr F4 wr w' F' → TnS w6 w' sb wb #[.int .i64 s1, .bool cc1, .slice a1 n1 cap1, .string x1, .int .i64 s2, .bool cc2, .slice a2 n2 cap2, .string x2] VS Ls 2 b c2 S' F' ∧ Bk w' ab #[.int .i64 (i1 : Int), .int .i64 (i2 : Int)] 87 ∧ ¬ F' ab) := show _ from fun w' F' n g => ⟨LK.out.step hl0.out n g, AB.out.gr g OF.out, g.off OF.out AB.out.lt⟩
            have N0 : Hid (cellN wr ⟨ab, 0, none⟩ = i1 ∧ cellN wr ⟨ab, 1, none⟩ = i2) := show _ ∧ _ from ⟨by unfold cellN; rw [c0]; simp, by unfold cellN; rw [c1]; simp⟩
            have HQ : Hid (i2 < m9) := q1
            obtain ⟨y, hy⟩ : ∃ y : Int, ((L9.getD i2 0 : Nat) : Int) = y := ⟨_, rfl⟩
            have HY : Hid (((L9.getD i2 0 : Nat) : Int) = y) := hy
            rw [hy] at C7
            clear hy q1 q3 q4 LK AB OF
            go_upto_region 37 with (go_at_call 24; with_reducible refine C7.mono ?_; rintro e v5 ⟨F5, rfl, n5, g5⟩)
            obtain ⟨l5, a5, o5⟩ := HS.out v5 F5 n5 g5
            have L6 : Hid (TnS w6 (v5.alloc (.cells #[.int .i64 pp, .int .i64 pl, .int .u64 y, .bool pc1, .bool pe, .int .i64 2, .int .i64 0] 63)) sb wb #[.int .i64 s1, .bool cc1, .slice a1 n1 cap1, .string x1, .int .i64 s2, .bool cc2, .slice a2 n2 cap2, .string x2] VS Ls 2 b c2 S' F5) := l5.next ((Below.refl _ _).alloc (Nat.le_refl _) _)
            have A6 : Hid (Bk (v5.alloc (.cells #[.int .i64 pp, .int .i64 pl, .int .u64 y, .bool pc1, .bool pe, .int .i64 2, .int .i64 0] 63)) ab #[.int .i64 (i1 : Int), .int .i64 (i2 : Int)] 87) := a5.alloc _
            have O6 : Hid (¬ F5 ab) := o5
            have M6 : Bk (v5.alloc (.cells #[.int .i64 pp, .int .i64 pl, .int .u64 y, .bool pc1, .bool pe, .int .i64 2, .int .i64 0] 63)) v5.heap.size #[.int .i64 pp, .int .i64 pl, .int .u64 y, .bool pc1, .bool pe, .int .i64 2, .int .i64 0] 63 := Bk.new _ _ _
            clear C7 HS n5 g5 l5 a5 o5 c0 c1 d0 d1
            generalize v5.alloc (.cells #[.int .i64 pp, .int .i64 pl, .int .u64 y, .bool pc1, .bool pe, .int .i64 2, .int .i64 0] 63) = v6 at *
            generalize v5.heap.size = kb at *
            have kx2 := M6.cell 2
            have kx5 := M6.cell 5
            simp only [List.getElem?_toArray, List.getElem?_cons_zero, List.getElem?_cons_succ] at kx2 kx5
            have c0 : v6.cell? ⟨ab, 0, none⟩ = some (.int .i64 (i1 : Int)) := A6.out.cell 0
            have c1 : v6.cell? ⟨ab, 1, none⟩ = some (.int .i64 (i2 : Int)) := A6.out.cell 1
            have d0 : v6.cell? ⟨wb, 0, none⟩ = some (.slice (some ⟨g0, f0, none⟩) m0 cp0) := by rw [← HVV.out.1]; exact L6.out.w.cell 0
            have d1 : v6.cell? ⟨wb, 1, none⟩ = some (.slice (some ⟨g9, f9, none⟩) m9 cp9) := by rw [← HVV.out.2]; exact L6.out.w.cell 1
            have r0 : v6.cell? ⟨g9, f9 + i2, none⟩ = some (.int .u64 y) := by rw [← HY.out]; exact HR9.out v6 S' F5 L6.out i2 HQ.out
            clear M6
            go_upto_region 38 with fail
            go_quiet (fail)
            have L7 : Hid (TnS w6 (v6.drewN nq) sb wb #[.int .i64 s1, .bool cc1, .slice a1 n1 cap1, .string x1, .int .i64 s2, .bool cc2, .slice a2 n2 cap2, .string x2] VS Ls 2 b c2 S' F5) := L6.out.next (dn (Below.refl _ _) nq)
            have A7 : Hid (Bk (v6.drewN nq) ab #[.int .i64 (i1 : Int), .int .i64 (i2 : Int)] 87) := A6.out.next (dn (Below.refl _ _) nq)
            clear kx2 kx5 c0 c1 d0 d1 r0 L6 A6
            generalize v6.drewN nq = v7 at *
            have c0 : v7.cell? ⟨ab, 0, none⟩ = some (.int .i64 (i1 : Int)) := A7.out.cell 0
            have c1 : v7.cell? ⟨ab, 1, none⟩ = some (.int .i64 (i2 : Int)) := A7.out.cell 1
            have z0 := A7.out.free 0
            have z1 := A7.out.free 1
            clear q5 q6 q7 q8
            go_upto_region 41 with fail
            have A8 : Hid (Bk (v7.setCell ⟨ab, 1, none⟩ (.int .i64 ((i2 : Int) + 1))) ab #[.int .i64 ((i1 : Nat) : Int), .int .i64 ((i2 + 1 : Nat) : Int)] 87) := show Bk _ _ _ _ from by
              have := A7.out.set 1 (.int .i64 ((i2 : Int) + 1))
              simpa using this
            have L8 : Hid (TnS w6 (v7.setCell ⟨ab, 1, none⟩ (.int .i64 ((i2 : Int) + 1))) sb wb #[.int .i64 s1, .bool cc1, .slice a1 n1 cap1, .string x1, .int .i64 s2, .bool cc2, .slice a2 n2 cap2, .string x2] VS Ls 2 b c2 S' F5) := L7.out.far O6.out HAB.out.1 HAB.out.2.1 HAB.out.2.2.1 HRB.out
            have N8 : Hid (cellN (v7.setCell ⟨ab, 1, none⟩ (.int .i64 ((i2 : Int) + 1))) ⟨ab, 0, none⟩ = i1 ∧ cellN (v7.setCell ⟨ab, 1, none⟩ (.int .i64 ((i2 : Int) + 1))) ⟨ab, 1, none⟩ = i2 + 1) := show _ ∧ _ from ⟨by unfold cellN; rw [A8.out.cell]; simp, by unfold cellN; rw [A8.out.cell]; simp⟩
            clear c0 c1 z0 z1 L7 A7
            generalize v7.setCell ⟨ab, 1, none⟩ (.int .i64 ((i2 : Int) + 1)) = v8 at *
            go_wp2
            go_roundw
            case rel => exact ⟨i1, i2 + 1, 1, S', F5, by have := HQ.out; omega, by have := HQ.out; omega, rfl, GS.out, L8.out, A8.out, O6.out⟩
            case measure =>
              have := HQ.out
              rw [N0.out.1, N0.out.2, N8.out.1, N8.out.2]
              omega
          · by_cases htest : i1 < m0
            · skip
              have C7 : Calls Tryz.prog 24 #[.pointer (some ⟨b, 0, none⟩), .int .i64 1, .func (.func 31) #[] #[]] wr fun e w' => ∃ F', e = .returned (.tuple #[.agg #[.int .i64 pp, .int .i64 pl, .int .u64 ((L9.getD i2 0 : Nat) : Int), .bool pc1, .bool pe, .int .i64 2, .int .i64 0], .bool true]) ∧ Rt w' b c2 S' F' ∧ Gr F4 wr w' F' := by
                simp only [D1.out.2.2.1, D1.out.2.2.2] at C6
                exact C6
              clear C6
              have q5 : (0 : Int) ≤ (i2 : Int) := by omega
              have q6 : (i2 : Int) < (m9 : Int) := by omega
              have q7 : ¬ (m9 : Int) ≤ (i2 : Int) := by omega
              have q8 : decide (m9 ≤ i2) = false := by simpa using q1
              have q9 : IntKind.i64.wrap ((i2 : Int) + 1) = (i2 : Int) + 1 := IntWalk.i64_in _ (by omega)
              have qa : (i1 : Int) < (m0 : Int) := by omega
              have qb : ((1 : Int) == last) = false := by simpa using fun c : (1 : Int) = last => hla c.symm
              have GS : Hid (GG (i1) (i2 + 1) 1 S') := q4
              have HS : Hid (∀ w' F', Rt w' b c2 S' F' → Gr F4 wr w' F' → TnS w6 w' sb wb #[.int .i64 s1, .bool cc1, .slice a1 n1 cap1, .string x1, .int .i64 s2, .bool cc2, .slice a2 n2 cap2, .string x2] VS Ls 2 b c2 S' F' ∧ Bk w' ab #[.int .i64 (i1 : Int), .int .i64 (i2 : Int)] 87 ∧ ¬ F' ab) := show _ from fun w' F' n g => ⟨LK.out.step hl0.out n g, AB.out.gr g OF.out, g.off OF.out AB.out.lt⟩
              have N0 : Hid (cellN wr ⟨ab, 0, none⟩ = i1 ∧ cellN wr ⟨ab, 1, none⟩ = i2) := show _ ∧ _ from ⟨by unfold cellN; rw [c0]; simp, by unfold cellN; rw [c1]; simp⟩
              have HQ : Hid (i2 < m9) := q1
              obtain ⟨y, hy⟩ : ∃ y : Int, ((L9.getD i2 0 : Nat) : Int) = y := ⟨_, rfl⟩
              have HY : Hid (((L9.getD i2 0 : Nat) : Int) = y) := hy
              rw [hy] at C7
              clear hy q1 q3 q4 LK AB OF
              go_upto_region 37 with (go_at_call 24; with_reducible refine C7.mono ?_; rintro e v5 ⟨F5, rfl, n5, g5⟩)
              obtain ⟨l5, a5, o5⟩ := HS.out v5 F5 n5 g5
              have L6 : Hid (TnS w6 (v5.alloc (.cells #[.int .i64 pp, .int .i64 pl, .int .u64 y, .bool pc1, .bool pe, .int .i64 2, .int .i64 0] 63)) sb wb #[.int .i64 s1, .bool cc1, .slice a1 n1 cap1, .string x1, .int .i64 s2, .bool cc2, .slice a2 n2 cap2, .string x2] VS Ls 2 b c2 S' F5) := l5.next ((Below.refl _ _).alloc (Nat.le_refl _) _)
              have A6 : Hid (Bk (v5.alloc (.cells #[.int .i64 pp, .int .i64 pl, .int .u64 y, .bool pc1, .bool pe, .int .i64 2, .int .i64 0] 63)) ab #[.int .i64 (i1 : Int), .int .i64 (i2 : Int)] 87) := a5.alloc _
              have O6 : Hid (¬ F5 ab) := o5
              have M6 : Bk (v5.alloc (.cells #[.int .i64 pp, .int .i64 pl, .int .u64 y, .bool pc1, .bool pe, .int .i64 2, .int .i64 0] 63)) v5.heap.size #[.int .i64 pp, .int .i64 pl, .int .u64 y, .bool pc1, .bool pe, .int .i64 2, .int .i64 0] 63 := Bk.new _ _ _
              clear C7 HS n5 g5 l5 a5 o5 c0 c1 d0 d1
              generalize v5.alloc (.cells #[.int .i64 pp, .int .i64 pl, .int .u64 y, .bool pc1, .bool pe, .int .i64 2, .int .i64 0] 63) = v6 at *
              generalize v5.heap.size = kb at *
              have kx2 := M6.cell 2
              have kx5 := M6.cell 5
              simp only [List.getElem?_toArray, List.getElem?_cons_zero, List.getElem?_cons_succ] at kx2 kx5
              have c0 : v6.cell? ⟨ab, 0, none⟩ = some (.int .i64 (i1 : Int)) := A6.out.cell 0
              have c1 : v6.cell? ⟨ab, 1, none⟩ = some (.int .i64 (i2 : Int)) := A6.out.cell 1
              have d0 : v6.cell? ⟨wb, 0, none⟩ = some (.slice (some ⟨g0, f0, none⟩) m0 cp0) := by rw [← HVV.out.1]; exact L6.out.w.cell 0
              have d1 : v6.cell? ⟨wb, 1, none⟩ = some (.slice (some ⟨g9, f9, none⟩) m9 cp9) := by rw [← HVV.out.2]; exact L6.out.w.cell 1
              have r0 : v6.cell? ⟨g9, f9 + i2, none⟩ = some (.int .u64 y) := by rw [← HY.out]; exact HR9.out v6 S' F5 L6.out i2 HQ.out
              clear M6
              go_upto_region 38 with fail
              go_quiet (fail)
              have L7 : Hid (TnS w6 (v6.drewN nq) sb wb #[.int .i64 s1, .bool cc1, .slice a1 n1 cap1, .string x1, .int .i64 s2, .bool cc2, .slice a2 n2 cap2, .string x2] VS Ls 2 b c2 S' F5) := L6.out.next (dn (Below.refl _ _) nq)
              have A7 : Hid (Bk (v6.drewN nq) ab #[.int .i64 (i1 : Int), .int .i64 (i2 : Int)] 87) := A6.out.next (dn (Below.refl _ _) nq)
              clear kx2 kx5 c0 c1 d0 d1 r0 L6 A6
              generalize v6.drewN nq = v7 at *
              have c0 : v7.cell? ⟨ab, 0, none⟩ = some (.int .i64 (i1 : Int)) := A7.out.cell 0
              have c1 : v7.cell? ⟨ab, 1, none⟩ = some (.int .i64 (i2 : Int)) := A7.out.cell 1
              have z0 := A7.out.free 0
              have z1 := A7.out.free 1
              clear q5 q6 q7 q8
              go_upto_region 41 with fail
              have A8 : Hid (Bk (v7.setCell ⟨ab, 1, none⟩ (.int .i64 ((i2 : Int) + 1))) ab #[.int .i64 ((i1 : Nat) : Int), .int .i64 ((i2 + 1 : Nat) : Int)] 87) := show Bk _ _ _ _ from by
                have := A7.out.set 1 (.int .i64 ((i2 : Int) + 1))
                simpa using this
              have L8 : Hid (TnS w6 (v7.setCell ⟨ab, 1, none⟩ (.int .i64 ((i2 : Int) + 1))) sb wb #[.int .i64 s1, .bool cc1, .slice a1 n1 cap1, .string x1, .int .i64 s2, .bool cc2, .slice a2 n2 cap2, .string x2] VS Ls 2 b c2 S' F5) := L7.out.far O6.out HAB.out.1 HAB.out.2.1 HAB.out.2.2.1 HRB.out
              have N8 : Hid (cellN (v7.setCell ⟨ab, 1, none⟩ (.int .i64 ((i2 : Int) + 1))) ⟨ab, 0, none⟩ = i1 ∧ cellN (v7.setCell ⟨ab, 1, none⟩ (.int .i64 ((i2 : Int) + 1))) ⟨ab, 1, none⟩ = i2 + 1) := show _ ∧ _ from ⟨by unfold cellN; rw [A8.out.cell]; simp, by unfold cellN; rw [A8.out.cell]; simp⟩
              clear c0 c1 z0 z1 L7 A7
              generalize v7.setCell ⟨ab, 1, none⟩ (.int .i64 ((i2 : Int) + 1)) = v8 at *
              go_wp2
              go_roundw
              case rel => exact ⟨i1, i2 + 1, 1, S', F5, by have := HQ.out; omega, by have := HQ.out; omega, rfl, GS.out, L8.out, A8.out, O6.out⟩
              case measure =>
                have := HQ.out
                rw [N0.out.1, N0.out.2, N8.out.1, N8.out.2]
                omega
            · skip
              have C7 : Calls Tryz.prog 24 #[.pointer (some ⟨b, 0, none⟩), .int .i64 1, .func (.func 31) #[] #[]] wr fun e w' => ∃ F', e = .returned (.tuple #[.agg #[.int .i64 pp, .int .i64 pl, .int .u64 ((L9.getD i2 0 : Nat) : Int), .bool pc1, .bool pe, .int .i64 2, .int .i64 0], .bool true]) ∧ Rt w' b c2 S' F' ∧ Gr F4 wr w' F' := by
                simp only [D1.out.2.2.1, D1.out.2.2.2] at C6
                exact C6
              clear C6
              have q5 : (0 : Int) ≤ (i2 : Int) := by omega
              have q6 : (i2 : Int) < (m9 : Int) := by omega
              have q7 : ¬ (m9 : Int) ≤ (i2 : Int) := by omega
              have q8 : decide (m9 ≤ i2) = false := by simpa using q1
              have q9 : IntKind.i64.wrap ((i2 : Int) + 1) = (i2 : Int) + 1 := IntWalk.i64_in _ (by omega)
              have qa : ¬ (i1 : Int) < (m0 : Int) := by omega
              have qb : ((1 : Int) == last) = false := by simpa using fun c : (1 : Int) = last => hla c.symm
              have GS : Hid (GG (i1) (i2 + 1) 1 S') := q4
              have HS : Hid (∀ w' F', Rt w' b c2 S' F' → Gr F4 wr w' F' → TnS w6 w' sb wb #[.int .i64 s1, .bool cc1, .slice a1 n1 cap1, .string x1, .int .i64 s2, .bool cc2, .slice a2 n2 cap2, .string x2] VS Ls 2 b c2 S' F' ∧ Bk w' ab #[.int .i64 (i1 : Int), .int .i64 (i2 : Int)] 87 ∧ ¬ F' ab) := show _ from fun w' F' n g => ⟨LK.out.step hl0.out n g, AB.out.gr g OF.out, g.off OF.out AB.out.lt⟩
              have N0 : Hid (cellN wr ⟨ab, 0, none⟩ = i1 ∧ cellN wr ⟨ab, 1, none⟩ = i2) := show _ ∧ _ from ⟨by unfold cellN; rw [c0]; simp, by unfold cellN; rw [c1]; simp⟩
              have HQ : Hid (i2 < m9) := q1
              obtain ⟨y, hy⟩ : ∃ y : Int, ((L9.getD i2 0 : Nat) : Int) = y := ⟨_, rfl⟩
              have HY : Hid (((L9.getD i2 0 : Nat) : Int) = y) := hy
              rw [hy] at C7
              clear hy q1 q3 q4 LK AB OF
              go_upto_region 37 with (go_at_call 24; with_reducible refine C7.mono ?_; rintro e v5 ⟨F5, rfl, n5, g5⟩)
              obtain ⟨l5, a5, o5⟩ := HS.out v5 F5 n5 g5
              have L6 : Hid (TnS w6 (v5.alloc (.cells #[.int .i64 pp, .int .i64 pl, .int .u64 y, .bool pc1, .bool pe, .int .i64 2, .int .i64 0] 63)) sb wb #[.int .i64 s1, .bool cc1, .slice a1 n1 cap1, .string x1, .int .i64 s2, .bool cc2, .slice a2 n2 cap2, .string x2] VS Ls 2 b c2 S' F5) := l5.next ((Below.refl _ _).alloc (Nat.le_refl _) _)
              have A6 : Hid (Bk (v5.alloc (.cells #[.int .i64 pp, .int .i64 pl, .int .u64 y, .bool pc1, .bool pe, .int .i64 2, .int .i64 0] 63)) ab #[.int .i64 (i1 : Int), .int .i64 (i2 : Int)] 87) := a5.alloc _
              have O6 : Hid (¬ F5 ab) := o5
              have M6 : Bk (v5.alloc (.cells #[.int .i64 pp, .int .i64 pl, .int .u64 y, .bool pc1, .bool pe, .int .i64 2, .int .i64 0] 63)) v5.heap.size #[.int .i64 pp, .int .i64 pl, .int .u64 y, .bool pc1, .bool pe, .int .i64 2, .int .i64 0] 63 := Bk.new _ _ _
              clear C7 HS n5 g5 l5 a5 o5 c0 c1 d0 d1
              generalize v5.alloc (.cells #[.int .i64 pp, .int .i64 pl, .int .u64 y, .bool pc1, .bool pe, .int .i64 2, .int .i64 0] 63) = v6 at *
              generalize v5.heap.size = kb at *
              have kx2 := M6.cell 2
              have kx5 := M6.cell 5
              simp only [List.getElem?_toArray, List.getElem?_cons_zero, List.getElem?_cons_succ] at kx2 kx5
              have c0 : v6.cell? ⟨ab, 0, none⟩ = some (.int .i64 (i1 : Int)) := A6.out.cell 0
              have c1 : v6.cell? ⟨ab, 1, none⟩ = some (.int .i64 (i2 : Int)) := A6.out.cell 1
              have d0 : v6.cell? ⟨wb, 0, none⟩ = some (.slice (some ⟨g0, f0, none⟩) m0 cp0) := by rw [← HVV.out.1]; exact L6.out.w.cell 0
              have d1 : v6.cell? ⟨wb, 1, none⟩ = some (.slice (some ⟨g9, f9, none⟩) m9 cp9) := by rw [← HVV.out.2]; exact L6.out.w.cell 1
              have r0 : v6.cell? ⟨g9, f9 + i2, none⟩ = some (.int .u64 y) := by rw [← HY.out]; exact HR9.out v6 S' F5 L6.out i2 HQ.out
              clear M6
              go_upto_region 38 with fail
              go_quiet (fail)
              have L7 : Hid (TnS w6 (v6.drewN nq) sb wb #[.int .i64 s1, .bool cc1, .slice a1 n1 cap1, .string x1, .int .i64 s2, .bool cc2, .slice a2 n2 cap2, .string x2] VS Ls 2 b c2 S' F5) := L6.out.next (dn (Below.refl _ _) nq)
              have A7 : Hid (Bk (v6.drewN nq) ab #[.int .i64 (i1 : Int), .int .i64 (i2 : Int)] 87) := A6.out.next (dn (Below.refl _ _) nq)
              clear kx2 kx5 c0 c1 d0 d1 r0 L6 A6
              generalize v6.drewN nq = v7 at *
              have c0 : v7.cell? ⟨ab, 0, none⟩ = some (.int .i64 (i1 : Int)) := A7.out.cell 0
              have c1 : v7.cell? ⟨ab, 1, none⟩ = some (.int .i64 (i2 : Int)) := A7.out.cell 1
              have z0 := A7.out.free 0
              have z1 := A7.out.free 1
              clear q5 q6 q7 q8
              go_upto_region 41 with fail
              have A8 : Hid (Bk (v7.setCell ⟨ab, 1, none⟩ (.int .i64 ((i2 : Int) + 1))) ab #[.int .i64 ((i1 : Nat) : Int), .int .i64 ((i2 + 1 : Nat) : Int)] 87) := show Bk _ _ _ _ from by
                have := A7.out.set 1 (.int .i64 ((i2 : Int) + 1))
                simpa using this
              have L8 : Hid (TnS w6 (v7.setCell ⟨ab, 1, none⟩ (.int .i64 ((i2 : Int) + 1))) sb wb #[.int .i64 s1, .bool cc1, .slice a1 n1 cap1, .string x1, .int .i64 s2, .bool cc2, .slice a2 n2 cap2, .string x2] VS Ls 2 b c2 S' F5) := L7.out.far O6.out HAB.out.1 HAB.out.2.1 HAB.out.2.2.1 HRB.out
              have N8 : Hid (cellN (v7.setCell ⟨ab, 1, none⟩ (.int .i64 ((i2 : Int) + 1))) ⟨ab, 0, none⟩ = i1 ∧ cellN (v7.setCell ⟨ab, 1, none⟩ (.int .i64 ((i2 : Int) + 1))) ⟨ab, 1, none⟩ = i2 + 1) := show _ ∧ _ from ⟨by unfold cellN; rw [A8.out.cell]; simp, by unfold cellN; rw [A8.out.cell]; simp⟩
              clear c0 c1 z0 z1 L7 A7
              generalize v7.setCell ⟨ab, 1, none⟩ (.int .i64 ((i2 : Int) + 1)) = v8 at *
              go_wp2
              go_roundw
              case rel => exact ⟨i1, i2 + 1, 1, S', F5, by have := HQ.out; omega, by have := HQ.out; omega, rfl, GS.out, L8.out, A8.out, O6.out⟩
              case measure =>
                have := HQ.out
                rw [N0.out.1, N0.out.2, N8.out.1, N8.out.2]
                omega
    have e1 : (i : Int) < 2 := by omega
    have e0 : (0 : Int) ≤ (i : Int) := by omega
    have e5 : IntKind.i64.wrap (2 * (i : Int)) = 2 * (i : Int) := IntWalk.i64_in _ (by omega)
    have e6 : IntKind.i64.wrap ((i : Int) + 1) = ((i + 1 : Nat) : Int) := by rw [IntWalk.i64_in _ (by omega)]; omega
    obtain ⟨c0, c1, c2', c3⟩ := CE.out i wr sb hex LI.out.s
    obtain ⟨FPi, hPc⟩ := FPH.out i hex
    have GW0 := fun v hb => GC.out i v hex hb
    have HUT : Hid (∀ v, Below wr.heap.size wr v → Below A w v) := show _ from fun v hb => HB6.out.trans ((LI.out.l.below.trans (hb.mono LI.out.l.size)).mono HA6.out)
    obtain ⟨L, hL⟩ : ∃ L, (setP 2 (sP i)).ws = L := ⟨_, rfl⟩
    have hLi : Ls i = L := (HLs.out i).symm.trans hL
    have hPut : Hid (∀ k, k < L.length → putRt (Pt i k) (2 * (i : Int)) 0 (L.getD k 0) = (Pt i (k + 1), 0)) := show _ from fun k hk => by
      have := HGT.out.put i k hex (by rw [hLi]; exact hk)
      rwa [hLi] at this
    have hFind : Hid (findRt (telR c2 1) (Pt i L.length) (2 * (i : Int)) 0 0 = (Fd i, true)) := show _ = _ from by
      have := HGT.out.find i hex
      rwa [hLi] at this
    have hLM : Hid (Ls i = L) := show _ = _ from hLi
    have hL17 : 2 ≤ L.length ∧ L.length ≤ 17 := by have := hW.out i hex; rw [hLi] at this; exact this
    clear hLi
    have hLt : Hid (∀ k, k < L.length → L.getD k 0 < 18446744073709551616) := show _ from fun k hk => (by rw [← hL]; exact (setP_wds FPi hPc (v := 2) (by decide) (by decide)).1.lt : ∀ x ∈ L, x < 18446744073709551616) _ (by rw [List.getD_eq_getElem?_getD, List.getElem?_eq_getElem hk]; exact List.getElem_mem _)
    have FD : Hid (Fine (setP 2 (sP i))) := setP_fine FPi (by decide) (by decide)
    have hlen := one_head FPi hPc
    clear FPi
    obtain ⟨P, hPP⟩ : ∃ P, sP i = P := ⟨_, rfl⟩
    rw [hPP] at FD hPc hlen hL GW0
    clear hPP
    obtain ⟨s', c', hs', x'⟩ := P
    simp only at hPc hlen
    subst hPc
    have HL1 : Hid (hs'.length = 1) := hlen
    clear hlen
    go_upto_region 18 with fail
    have D1 : Hid (Below wr.heap.size wr (wr.alloc (.cells #[.int .i64 (sS i), .bool (sC i), .slice (sA i) (sN i) (sK i), .string (sX i)] 39))) := (Below.refl _ _).alloc (Nat.le_refl _) _
    have P1 : Hid (Bk (wr.alloc (.cells #[.int .i64 (sS i), .bool (sC i), .slice (sA i) (sN i) (sK i), .string (sX i)] 39)) wr.heap.size #[.int .i64 (sS i), .bool (sC i), .slice (sA i) (sN i) (sK i), .string (sX i)] 39) := Bk.new _ _ _
    obtain ⟨PB, hPB⟩ : ∃ x, wr.heap.size = x := ⟨_, rfl⟩
    have HPB : Hid (wr.heap.size = PB) := hPB
    rw [hPB] at D1 P1 HUT
    generalize wr.alloc (.cells #[.int .i64 (sS i), .bool (sC i), .slice (sA i) (sN i) (sK i), .string (sX i)] 39) = v1 at *
    rw [hPB]
    clear c0 c1 c2' c3 hPB
    have p1 := P1.out.cell 1
    have z1 := P1.out.free 1
    simp only [List.getElem?_toArray, List.getElem?_cons_zero, List.getElem?_cons_succ] at p1
    go_upto_region 19 with fail
    have P2 : Hid (Bk (v1.setCell ⟨PB, 1, none⟩ (.bool false)) PB #[.int .i64 (sS i), .bool false, .slice (sA i) (sN i) (sK i), .string (sX i)] 39) := show Bk _ _ _ _ from by
      have := P1.out.set 1 (.bool false)
      simpa using this
    have D2 : Hid (Below PB wr (v1.setCell ⟨PB, 1, none⟩ (.bool false))) := D1.out.setCell (Nat.le_refl _) _
    clear P1 D1 p1 z1
    generalize v1.setCell ⟨PB, 1, none⟩ (.bool false) = v2 at *
    have GW := GW0 v2 (HUT.out v2 D2.out)
    clear GW0
    unfold PcN at GW
    dsimp only at GW
    rw [HL1.out] at GW
    obtain ⟨p0, p1, p2, p3⟩ := four_cells P2.out
    go_wp2_with fail
    go_at_call 29
    with_reducible refine GW.mono ?_
    rintro e v3 ⟨ra, rcap, rfl, hrc, rd3, b3, nw3⟩
    have P3 : Bk v3 PB #[.int .i64 (sS i), .bool false, .slice (sA i) (sN i) (sK i), .string (sX i)] 39 := P2.out.next b3
    obtain ⟨g, oo, hra, hg, cg, -⟩ := rd3.pair (k := 0) (by rw [HL1.out]; decide)
    subst hra
    obtain ⟨hgv, hgb⟩ := nw3 _ rfl
    rw [Nat.zero_mul, Nat.add_zero] at cg
    have hPg : PB < g := Nat.lt_of_lt_of_le P2.out.lt hgv
    have D3 : Below PB wr v3 := D2.out.trans (b3.mono (Nat.le_of_lt P2.out.lt))
    clear p0 p1 p2 p3 GW
    obtain ⟨p0, p1, p2, p3⟩ := four_cells P3
    have z0 := P3.free 0
    have z1 := P3.free 1
    have z2 := P3.free 2
    have z3 := P3.free 3
    go_upto_region 20 with fail
    have P4 : Hid (Bk ((((v3.setCell ⟨PB, 0, none⟩ (.int .i64 s')).setCell ⟨PB, 1, none⟩ (.bool false)).setCell ⟨PB, 2, none⟩ (.slice (some ⟨g, oo, none⟩) 1 rcap)).setCell ⟨PB, 3, none⟩ (.string x')) PB #[.int .i64 s', .bool false, .slice (some ⟨g, oo, none⟩) 1 rcap, .string x'] 39) := show Bk _ _ _ _ from by
      have := (((P3.set 0 (.int .i64 s')).set 1 (.bool false)).set 2 (.slice (some ⟨g, oo, none⟩) 1 rcap)).set 3 (.string x')
      simpa using this
    have D4 : Hid (Below PB wr ((((v3.setCell ⟨PB, 0, none⟩ (.int .i64 s')).setCell ⟨PB, 1, none⟩ (.bool false)).setCell ⟨PB, 2, none⟩ (.slice (some ⟨g, oo, none⟩) 1 rcap)).setCell ⟨PB, 3, none⟩ (.string x'))) := (((D3.setCell (Nat.le_refl _) _).setCell (Nat.le_refl _) _).setCell (Nat.le_refl _) _).setCell (Nat.le_refl _) _
    have cl : ∀ j, ((((v3.setCell ⟨PB, 0, none⟩ (.int .i64 s')).setCell ⟨PB, 1, none⟩ (.bool false)).setCell ⟨PB, 2, none⟩ (.slice (some ⟨g, oo, none⟩) 1 rcap)).setCell ⟨PB, 3, none⟩ (.string x')).cell? ⟨g, j, none⟩ = v3.cell? ⟨g, j, none⟩ := fun j => by
      rw [World.cell?_setCell_other _ _ _ _ (by intro c; simp only [Addr.mk.injEq] at c; omega), World.cell?_setCell_other _ _ _ _ (by intro c; simp only [Addr.mk.injEq] at c; omega), World.cell?_setCell_other _ _ _ _ (by intro c; simp only [Addr.mk.injEq] at c; omega), World.cell?_setCell_other _ _ _ _ (by intro c; simp only [Addr.mk.injEq] at c; omega)]
    have R4 : Hid (Rd ((((v3.setCell ⟨PB, 0, none⟩ (.int .i64 s')).setCell ⟨PB, 1, none⟩ (.bool false)).setCell ⟨PB, 2, none⟩ (.slice (some ⟨g, oo, none⟩) 1 rcap)).setCell ⟨PB, 3, none⟩ (.string x')) (some ⟨g, oo, none⟩) (pc hs')) := show Rd _ _ _ from fun j v hj => by
      obtain ⟨g9, o9, e9, h9, k9⟩ := rd3 j v hj
      cases e9
      exact ⟨g, oo, rfl, by simpa using h9, (cl _).trans k9⟩
    have G4 : Hid (∃ cs t, Bk ((((v3.setCell ⟨PB, 0, none⟩ (.int .i64 s')).setCell ⟨PB, 1, none⟩ (.bool false)).setCell ⟨PB, 2, none⟩ (.slice (some ⟨g, oo, none⟩) 1 rcap)).setCell ⟨PB, 3, none⟩ (.string x')) g cs t) := show ∃ cs t, Bk _ _ cs t from by
      obtain ⟨cs, t, h⟩ := hgb
      exact ⟨cs, t, (((h.far (by omega)).far (by omega)).far (by omega)).far (by omega)⟩
    have cg4 := (cl oo).trans cg
    clear p0 p1 p2 p3 z0 z1 z2 z3 P3 D3 b3 rd3 nw3 hgv hgb cl cg P2 D2 hg
    generalize (((v3.setCell ⟨PB, 0, none⟩ (.int .i64 s')).setCell ⟨PB, 1, none⟩ (.bool false)).setCell ⟨PB, 2, none⟩ (.slice (some ⟨g, oo, none⟩) 1 rcap)).setCell ⟨PB, 3, none⟩ (.string x') = v4 at *
    have p2 := P4.out.cell 2
    simp only [List.getElem?_toArray, List.getElem?_cons_zero, List.getElem?_cons_succ] at p2
    have zg : v4.frozen? ⟨g, oo, none⟩ = false := by obtain ⟨cs, t, h⟩ := G4.out; exact h.free oo
    have e9 : (0 : Int) < ((1 : Nat) : Int) := by decide
    go_upto_region 21 with fail
    have P5 : Hid (Bk (v4.setCell ⟨g, oo, none⟩ (.int .i64 2)) PB #[.int .i64 s', .bool false, .slice (some ⟨g, oo, none⟩) 1 rcap, .string x'] 39) := P4.out.far (by omega)
    have D5 : Hid (Below PB wr (v4.setCell ⟨g, oo, none⟩ (.int .i64 2))) := D4.out.setCell (by show PB ≤ g; omega) _
    have R5 : Rd (v4.setCell ⟨g, oo, none⟩ (.int .i64 2)) (some ⟨g, oo, none⟩) (pc (setP 2 ⟨s', false, hs', x'⟩).hs) := R4.out.first (by rw [HL1.out]; decide) 2
    have hlP : (setP 2 ⟨s', false, hs', x'⟩).hs.length = 1 := (List.length_set ..).trans HL1.out
    clear P4 D4 R4 G4 cg4 p2 zg hPg
    generalize v4.setCell ⟨g, oo, none⟩ (.int .i64 2) = v5 at *
    have WC := FD.out.rwords_new (some ⟨g, oo, none⟩) rcap v5 R5
    rw [hlP, hL] at WC
    simp only [pcv, pcc, show (setP 2 ⟨s', false, hs', x'⟩).s = s' from rfl, show (setP 2 ⟨s', false, hs', x'⟩).c = false from rfl, show (setP 2 ⟨s', false, hs', x'⟩).x = x' from rfl] at WC
    clear hL FD R5 hlP e9
    obtain ⟨p0, p1, p2, p3⟩ := four_cells P5.out
    go_upto_region 22 with (go_at_call 30; with_reducible refine WC.mono ?_; rintro e v6 ⟨la, lcap, rfl, hlc, rd6, b6, nw6⟩)
    have D6 : Below wr.heap.size wr v6 := by
      rw [HPB.out]
      exact D5.out.trans (b6.mono (Nat.le_of_lt P5.out.lt))
    have L6 : Hid (TnS w6 v6 sb wb #[.int .i64 s1, .bool cc1, .slice a1 n1 cap1, .string x1, .int .i64 s2, .bool cc2, .slice a2 n2 cap2, .string x2] VS Ls i b c2 (U i) F) := LI.out.next D6
    have R6 : Hid (Rd v6 la (vw L) ∧ Off F la ∧ ∀ y, la = some y → wb < y.block) := show _ ∧ _ ∧ _ from ⟨rd6, fun x e hf => by
      have := nw6 x e
      have h1 := LI.out.l.rt.lt _ hf
      have h2 := P5.out.lt
      have h3 := HPB.out
      omega, fun x e => by
      have := nw6 x e
      have h1 := LI.out.w.lt
      have h2 := P5.out.lt
      have h3 := HPB.out
      omega⟩
    clear p0 p1 p2 p3 WC rd6 nw6 b6 D6 P5 D5 LI HUT HPB HL1
    obtain ⟨m, hm⟩ : ∃ m, L.length = m := ⟨_, rfl⟩
    have HML : Hid (L.length = m) := hm
    rw [hm] at hPut hFind hLt hlc hL17 ⊢
    clear hm
    obtain ⟨g2, o2, e92, -, -⟩ := R6.out.1 0 _ (vw_at (by rw [HML.out]; omega))
    subst e92
    have wi : v6.cell? ⟨wb, i, none⟩ = some (VS i) := by
      rw [L6.out.w.cell]
      rcases (show i = 0 ∨ i = 1 by omega) with rfl | rfl <;> rfl
    have zi := L6.out.w.free i
    go_upto_region 23 with fail
    obtain ⟨VS2, hVS2⟩ : ∃ f : Nat → Value, (fun j => if j = i then .slice (some ⟨g2, o2, none⟩) m lcap else VS j) = f := ⟨_, rfl⟩
    have HV : Hid (VS2 i = .slice (some ⟨g2, o2, none⟩) m lcap) := show _ = _ from by rw [← hVS2]; simp
    have L7 : Hid (TnS w6 (v6.setCell ⟨wb, i, none⟩ (.slice (some ⟨g2, o2, none⟩) m lcap)) sb wb #[.int .i64 s1, .bool cc1, .slice a1 n1 cap1, .string x1, .int .i64 s2, .bool cc2, .slice a2 n2 cap2, .string x2] VS2 Ls (i + 1) b c2 (U i) F) := show TnS _ _ _ _ _ _ _ _ _ _ _ _ from by
      have := L6.out.more (a := some ⟨g2, o2, none⟩) (cap := lcap) hex HSW.out.2 HSW.out.1 (by rw [hLM.out, HML.out]; exact hlc) (by rw [hLM.out]; exact R6.out.1) R6.out.2.1 R6.out.2.2
      simp only [hLM.out, HML.out, hVS2] at this
      exact this
    clear wi zi hVS2 L6 R6
    generalize v6.setCell ⟨wb, i, none⟩ (.slice (some ⟨g2, o2, none⟩) m lcap) = v7 at *
    have hl0 : Hid (∀ j, j < i + 1 → 0 < (Ls j).length) := show _ from fun j hj => by have := hW.out j (by omega); omega
    go_wp2_with fail
    go_loopw [14] (fun xk wv => ∃ (k : Nat) (F' : Nat → Prop), k ≤ m ∧ xk = .int .i64 k ∧ TnS w6 wv sb wb #[.int .i64 s1, .bool cc1, .slice a1 n1 cap1, .string x1, .int .i64 s2, .bool cc2, .slice a2 n2 cap2, .string x2] VS2 Ls (i + 1) b c2 (Pt i k) F') (fun xk _ => m - (RowKit.intOf xk).toNat)
    case atStart => exact ⟨0, F, Nat.zero_le _, rfl, by rw [HGT.out.p0 i hex]; exact L7.out⟩
    case round =>
      obtain ⟨k, F', hk, rfl, l⟩ := hrel
      clear L7
      have LK : Hid (TnS w6 wr sb wb #[.int .i64 s1, .bool cc1, .slice a1 n1 cap1, .string x1, .int .i64 s2, .bool cc2, .slice a2 n2 cap2, .string x2] VS2 Ls (i + 1) b c2 (Pt i k) F') := l
      clear l
      by_cases hex2 : k < m
      case neg =>
        obtain rfl : k = m := by omega
        have e2 : ¬ (k : Int) < (k : Int) := by omega
        have C1 : Calls Tryz.prog 20 #[.pointer (some ⟨b, 0, none⟩), .int .i64 (2 * (i : Int)), .int .i64 0, .int .i64 0] wr fun e w' => ∃ F'', e = .returned (.bool true) ∧ Rt w' b c2 (Fd i) F'' ∧ Gr F' wr w' F'' := by
          have := router_find LK.out.l.rt (LK.out.l.tabs HT6.out.1) (LK.out.l.steps HT6.out.2) (2 * (i : Int)) 0 0 (by decide) (by decide)
          rw [HGT.out.pn, hFind.out] at this
          exact this
        go_wp2_with fail
        go_at_call 20
        with_reducible refine C1.mono ?_
        rintro e v8 ⟨F8, rfl, n8, g8⟩
        have L8 : Hid (TnS w6 v8 sb wb #[.int .i64 s1, .bool cc1, .slice a1 n1 cap1, .string x1, .int .i64 s2, .bool cc2, .slice a2 n2 cap2, .string x2] VS2 Ls (i + 1) b c2 (Fd i) F8) := LK.out.step hl0.out n8 g8
        clear C1 LK n8 g8
        have C2 : Calls Tryz.prog 22 #[.pointer (some ⟨b, 0, none⟩), .int .i64 (2 * (i : Int)), .int .i64 0] v8 fun e w' => ∃ F'', e = .returned (.bool true) ∧ Rt w' b c2 (U (i + 1)) F'' ∧ Gr F8 v8 w' F'' := by
          have := router_give L8.out.l.rt (2 * (i : Int)) 0
          rw [HGT.out.give i hex] at this
          exact this
        go_wp2_with fail
        go_at_call 22
        with_reducible refine C2.mono ?_
        rintro e v9 ⟨F9, rfl, n9, g9⟩
        have L9 : Hid (TnS w6 v9 sb wb #[.int .i64 s1, .bool cc1, .slice a1 n1 cap1, .string x1, .int .i64 s2, .bool cc2, .slice a2 n2 cap2, .string x2] VS2 Ls (i + 1) b c2 (U (i + 1)) F9) := L8.out.step hl0.out n9 g9
        clear C2 L8 n9 g9
        go_wp2
        go_roundw
        case rel => exact ⟨i + 1, F9, VS2, by omega, by go_num, L9.out⟩
        case measure => simp [RowKit.intOf]; omega
      obtain ⟨a9, cap9, h91, -, h93, -, -⟩ := LK.out.r i (Nat.lt_succ_self i)
      rw [HV.out] at h91
      rw [hLM.out] at h93
      injection h91 with h94 h95 h96
      clear h95 h96
      subst h94
      obtain ⟨g3, o3, e92, hg2, k0⟩ := h93 k _ (vw_at (by rw [HML.out]; exact hex2))
      simp only [Option.some.injEq, Addr.mk.injEq, and_true] at e92
      obtain ⟨rfl, rfl⟩ := e92
      clear h93
      have e2 : (k : Int) < (m : Int) := by omega
      have e3 : (0 : Int) ≤ (k : Int) := by omega
      have e4 : IntKind.i64.wrap ((k : Int) + 1) = ((k + 1 : Nat) : Int) := by rw [IntWalk.i64_in _ (by omega)]; omega
      have PC : Calls Tryz.prog 18 #[.pointer (some ⟨b, 0, none⟩), .int .i64 (2 * (i : Int)), .int .i64 0, .int .u64 ((L.getD k 0 : Nat) : Int)] wr fun e w' => ∃ F'', e = .returned (.int .i64 0) ∧ Rt w' b c2 (Pt i (k + 1)) F'' ∧ Gr F' wr w' F'' := by
        have := router_put LK.out.l.rt (2 * (i : Int)) 0 (L.getD k 0) (hLt.out k hex2)
        rw [hPut.out k hex2] at this
        exact this
      have HS : Hid (∀ w' F'', Rt w' b c2 (Pt i (k + 1)) F'' → Gr F' wr w' F'' → TnS w6 w' sb wb #[.int .i64 s1, .bool cc1, .slice a1 n1 cap1, .string x1, .int .i64 s2, .bool cc2, .slice a2 n2 cap2, .string x2] VS2 Ls (i + 1) b c2 (Pt i (k + 1)) F'') := show _ from fun w' F'' n g => LK.out.step hl0.out n g
      obtain ⟨y, hy⟩ : ∃ y : Int, ((L.getD k 0 : Nat) : Int) = y := ⟨_, rfl⟩
      rw [hy] at k0 PC
      clear hy
      go_wp2_with fail
      go_at_call 18
      with_reducible refine PC.mono ?_
      rintro e v8 ⟨F8, rfl, n8, g8⟩
      have L8 : Hid (TnS w6 v8 sb wb #[.int .i64 s1, .bool cc1, .slice a1 n1 cap1, .string x1, .int .i64 s2, .bool cc2, .slice a2 n2 cap2, .string x2] VS2 Ls (i + 1) b c2 (Pt i (k + 1)) F8) := HS.out _ _ n8 g8
      clear PC HS n8 g8 k0 LK
      go_wp2
      go_roundw
      case rel => exact ⟨k + 1, F8, by omega, by go_num, L8.out⟩
      case measure => simp [RowKit.intOf]; omega
end Go.Proofs.YtmmegmonmilkcaaGreatDoor

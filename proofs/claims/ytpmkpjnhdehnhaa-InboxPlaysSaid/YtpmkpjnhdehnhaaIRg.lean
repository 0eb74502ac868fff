/-
  The document's inbox by value: the place of the one to be told. (Written by gen_irg.py.)
-/
import Derived.Test.YtpmkpjnhdehnhaaIRf
namespace Go.Proofs.Ytpmkpjnhdehnhaa
open Go.RowKit

/-- Of the first k that wait. -/
def RdI (nx : Int → Int) (W : List Pk) (k : Nat) (z : Int) : Prop :=
  (z = -1 ∧ ∀ p ∈ W.take k, p.q ≠ nx p.s) ∨ ∃ (a : Nat) (p : Pk), z = (a : Int) ∧ W[a]? = some p ∧ p.q = nx p.s ∧ ∀ r ∈ W.take k, r.q = nx r.s → p.s ≤ r.s
theorem RdI.zero (nx : Int → Int) (W : List Pk) : RdI nx W 0 (-1) := Or.inl ⟨rfl, fun p hp => by simp at hp⟩
section
variable {nx : Int → Int} {W : List Pk} {k : Nat} {z : Int} {p : Pk}
theorem mem_take_succ (hk : W[k]? = some p) {r : Pk} (h : r ∈ W.take (k + 1)) : r ∈ W.take k ∨ r = p := by
  rw [List.take_add_one, hk] at h
  simpa using h
theorem RdI.skip (h : RdI nx W k z) (hk : W[k]? = some p) (hp : p.q ≠ nx p.s) : RdI nx W (k + 1) z := by
  rcases h with ⟨h1, h2⟩ | ⟨a, r, h1, h2, h3, h4⟩
  · refine Or.inl ⟨h1, fun x hx => ?_⟩
    rcases mem_take_succ hk hx with hx | rfl
    · exact h2 x hx
    · exact hp
  · refine Or.inr ⟨a, r, h1, h2, h3, fun x hx hq => ?_⟩
    rcases mem_take_succ hk hx with hx | rfl
    · exact h4 x hx hq
    · exact absurd hq hp
theorem RdI.keep {a : Nat} {r : Pk} (h : RdI nx W k (a : Int)) (hk : W[k]? = some p) (ha : W[a]? = some r) (hs : ¬ p.s < r.s) : RdI nx W (k + 1) (a : Int) := by
  rcases h with ⟨h1, _⟩ | ⟨a', r', h1, h2, h3, h4⟩
  · omega
  · obtain rfl : a = a' := by omega
    rw [ha] at h2
    cases h2
    refine Or.inr ⟨a, r, rfl, ha, h3, fun x hx hq => ?_⟩
    rcases mem_take_succ hk hx with hx | rfl
    · exact h4 x hx hq
    · omega
theorem RdI.take (h : RdI nx W k z) (hk : W[k]? = some p) (hp : p.q = nx p.s) (hz : z = -1 ∨ ∃ (a : Nat) (r : Pk), z = (a : Int) ∧ W[a]? = some r ∧ p.s < r.s) : RdI nx W (k + 1) (k : Int) := by
  refine Or.inr ⟨k, p, rfl, hk, hp, fun x hx hq => ?_⟩
  rcases mem_take_succ hk hx with hx | rfl
  · rcases h with ⟨_, h2⟩ | ⟨a', r', h1, h2, _, h4⟩
    · exact absurd hq (h2 x hx)
    · rcases hz with hz | ⟨a, r, hz, ha, hs⟩
      · omega
      · obtain rfl : a = a' := by omega
        rw [ha] at h2
        cases h2
        have := h4 x hx hq
        omega
  · exact Int.le_refl _
/-- What it comes to. -/
theorem RdI.out {S : IS} (ok : IOk S) (h : RdI S.nx S.W S.W.length z) : (z = -1 ∧ rdy S = none) ∨ ∃ (a : Nat) (p : Pk), z = (a : Int) ∧ S.W[a]? = some p ∧ rdy S = some p := by
  unfold RdI at h
  rw [List.take_length] at h
  rcases h with ⟨h1, h2⟩ | ⟨a, p, h1, h2, h3, h4⟩
  · exact Or.inl ⟨h1, pick_no h2⟩
  · exact Or.inr ⟨a, p, h1, h2, pick_uniq ok.ap (List.mem_of_getElem? h2) h3 h4⟩
end
set_option maxRecDepth 100000 in
set_option maxHeartbeats 4000000 in
theorem rready_any {w : World} {S : IS} {N : List (Int × Int)} {sl sw sn : Value} (h : RB w S N sl sw sn) (hW : S.W.length ≤ 1000) :
    Calls Try.prog 28 #[bvv S.n sl sw sn] w fun e w' => ∃ z, e = .returned (.int .i64 z) ∧ RdI S.nx S.W S.W.length z ∧ Below w.heap.size w w' := by
  obtain ⟨h1, h2, h3, hnx⟩ := h
  obtain ⟨⟨a1, b1, rfl, l1, m1, z1, r1⟩, q1⟩ := h1
  obtain ⟨⟨a2, b2, rfl, l2, m2, z2, r2⟩, q2⟩ := h2
  obtain ⟨⟨a3, b3, rfl, l3, m3, z3, r3⟩, q3⟩ := h3
  have OF : Hid (∀ v, Below w.heap.size w v → ∀ s, Calls Try.prog 15 #[.agg #[.int .i64 (S.n : Int), .slice a1 S.L.length b1, .slice a2 S.W.length b2, .slice a3 N.length b3], .int .i64 s] v fun e w' => e = .returned (.int .i64 (S.nx s)) ∧ Below v.heap.size v w') := show _ from fun v hv s => by
    rw [← hnx s]
    exact rof_any (RR.next ⟨⟨a1, b1, rfl, l1, m1, z1, r1⟩, q1⟩ hv) (RR.next ⟨⟨a2, b2, rfl, l2, m2, z2, r2⟩, q2⟩ hv) (RR.next ⟨⟨a3, b3, rfl, l3, m3, z3, r3⟩, q3⟩ hv) s
  have RW : Hid (Rd w a2 (pkcs S.W)) := r2
  generalize (S.n : Int) = n0 at *
  generalize S.nx = nx at *
  generalize S.L.length = nl at *
  generalize N.length = nn at *
  generalize hWW : S.W = W at *
  generalize hnw : W.length = nw at *
  have HNW : Hid (W.length = nw) := hnw
  have BB : Hid (Bk (w.alloc (.cells #[.int .i64 n0, .slice a1 nl b1, .slice a2 nw b2, .slice a3 nn b3] 29)) w.heap.size #[.int .i64 n0, .slice a1 nl b1, .slice a2 nw b2, .slice a3 nn b3] 29) := Bk.new w _ _
  have HB : Hid (Below w.heap.size w (w.alloc (.cells #[.int .i64 n0, .slice a1 nl b1, .slice a2 nw b2, .slice a3 nn b3] 29))) := (Below.refl _ _).alloc (Nat.le_refl _) _
  clear l1 m1 z1 r1 q1 l2 m2 z2 r2 q2 l3 m3 z3 r3 q3 hnx hWW hnw
  simp only [bvv]
  go_enter Try.func28, Try.ntmps28
  go_wp2_with fail
  generalize w.alloc (.cells #[.int .i64 n0, .slice a1 nl b1, .slice a2 nw b2, .slice a3 nn b3] 29) = w1 at *
  obtain ⟨d, hd⟩ : ∃ d, w.heap.size = d := ⟨_, rfl⟩
  rw [hd] at BB HB ⊢
  have HD : Hid (w.heap.size = d) := hd
  clear hd
  go_loopw [3, 4] (fun at' i wr => ∃ (k : Nat) (z : Int), k ≤ nw ∧ i = .int .i64 (k : Int) ∧ at' = .int .i64 z ∧ RdI nx W k z ∧ Below d w wr ∧ Bk wr d #[.int .i64 n0, .slice a1 nl b1, .slice a2 nw b2, .slice a3 nn b3] 29) (fun _ i _ => nw - (intOf i).toNat)
  case atStart => exact ⟨0, -1, Nat.zero_le _, rfl, rfl, RdI.zero _ _, HB.out, BB.out⟩
  case round =>
    clear BB HB
    obtain ⟨k, z, hk, rfl, rfl, hI, hB, hBk⟩ := hrel
    by_cases hlt : k < nw
    · obtain ⟨x, hx⟩ : ∃ x, W[k]? = some x := ⟨_, List.getElem?_eq_getElem (by rw [HNW.out]; exact hlt)⟩
      have hBw : Below w.heap.size w wr := by rw [HD.out]; exact hB
      obtain ⟨g, o, ha, _, c0, c1, c2, c3⟩ := rd_pk (RW.out.below hBw) hx
      have t1 : (k : Int) < (nw : Int) := by omega
      have y2 := hBk.cell 2
      simp only [List.getElem?_toArray, List.getElem?_cons_zero, List.getElem?_cons_succ] at y2
      have B2 : Hid (Bk (wr.alloc (.cells #[.int .i64 x.s, .int .i64 x.d, .int .i64 x.q, .string x.x] 33)) d #[.int .i64 n0, .slice a1 nl b1, .slice a2 nw b2, .slice a3 nn b3] 29) := hBk.alloc _
      have P2 : Hid (Bk (wr.alloc (.cells #[.int .i64 x.s, .int .i64 x.d, .int .i64 x.q, .string x.x] 33)) wr.heap.size #[.int .i64 x.s, .int .i64 x.d, .int .i64 x.q, .string x.x] 33) := Bk.new wr _ _
      have H2 : Hid (Below w.heap.size w (wr.alloc (.cells #[.int .i64 x.s, .int .i64 x.d, .int .i64 x.q, .string x.x] 33))) := hBw.alloc hBw.size _
      have HX : Hid (W[k]? = some x) := hx
      have HI : Hid (RdI nx W k z) := hI
      subst ha
      obtain ⟨xs, xd, xq, xx⟩ := x
      clear hx hI hBw hBk hB
      go_upto_region 6 with fail
      generalize wr.alloc (.cells #[.int .i64 xs, .int .i64 xd, .int .i64 xq, .string xx] 33) = v at *
      generalize wr.heap.size = e at *
      clear y2 c0 c1 c2 c3
      have OC : ∀ q : Gw v, ∀ s, Calls Try.prog 15 #[.agg #[.int .i64 n0, .slice a1 nl b1, .slice (some ⟨g, o, none⟩) nw b2, .slice a3 nn b3], .int .i64 s] q.v fun e w' => e = .returned (.int .i64 (nx s)) ∧ Below q.v.heap.size q.v w' := fun q s => OF.out q.v (H2.out.trans (q.le.mono H2.out.size)) s
      have y0 : ∀ q : Gw v, q.v.cell? ⟨d, 0, none⟩ = some (.int .i64 n0) := fun q => Gw.cell q B2.out.lt (B2.out.cell 0)
      have y1 : ∀ q : Gw v, q.v.cell? ⟨d, 1, none⟩ = some (.slice a1 nl b1) := fun q => Gw.cell q B2.out.lt (B2.out.cell 1)
      have y2 : ∀ q : Gw v, q.v.cell? ⟨d, 2, none⟩ = some (.slice (some ⟨g, o, none⟩) nw b2) := fun q => Gw.cell q B2.out.lt (B2.out.cell 2)
      have y3 : ∀ q : Gw v, q.v.cell? ⟨d, 3, none⟩ = some (.slice a3 nn b3) := fun q => Gw.cell q B2.out.lt (B2.out.cell 3)
      have p0 : ∀ q : Gw v, q.v.cell? ⟨e, 0, none⟩ = some (.int .i64 xs) := fun q => Gw.cell q P2.out.lt (P2.out.cell 0)
      have p2 : ∀ q : Gw v, q.v.cell? ⟨e, 2, none⟩ = some (.int .i64 xq) := fun q => Gw.cell q P2.out.lt (P2.out.cell 2)
      obtain ⟨nq, hnq⟩ : ∃ nq, nx xs = nq := ⟨_, rfl⟩
      have OC1 : ∀ q : Gw v, Calls Try.prog 15 #[.agg #[.int .i64 n0, .slice a1 nl b1, .slice (some ⟨g, o, none⟩) nw b2, .slice a3 nn b3], .int .i64 xs] q.v fun e w' => e = .returned (.int .i64 nq) ∧ Below q.v.heap.size q.v w' := fun q => hnq ▸ OC q xs
      have HQ : Hid (nx xs = nq) := hnq
      clear OC hnq
      have key : (xq ≠ nq ∧ Hid (RdI nx W (k + 1) z)) ∨ (xq = nq ∧ z = -1 ∧ Hid (RdI nx W (k + 1) (k : Int))) ∨ ∃ (a : Nat) (r : Pk), xq = nq ∧ z = (a : Int) ∧ a < nw ∧ Hid (W[a]? = some r) ∧ ((xs < r.s ∧ Hid (RdI nx W (k + 1) (k : Int))) ∨ (¬ xs < r.s ∧ Hid (RdI nx W (k + 1) (a : Int)))) := by
        by_cases hq : xq = nq
        · have hp : (⟨xs, xd, xq, xx⟩ : Pk).q = nx (⟨xs, xd, xq, xx⟩ : Pk).s := by rw [HQ.out]; exact hq
          have hI := HI.out
          rcases HI.out with ⟨h1, _⟩ | ⟨a, r, h1, h2, _, _⟩
          · exact Or.inr (Or.inl ⟨hq, h1, hI.take HX.out hp (Or.inl h1)⟩)
          · have han : a < nw := by rw [← HNW.out]; exact (List.getElem?_eq_some_iff.1 h2).1
            refine Or.inr (Or.inr ⟨a, r, hq, h1, han, h2, ?_⟩)
            by_cases hs : xs < r.s
            · exact Or.inl ⟨hs, hI.take HX.out hp (Or.inr ⟨a, r, h1, h2, hs⟩)⟩
            · rw [h1] at hI
              exact Or.inr ⟨hs, hI.keep HX.out h2 hs⟩
        · exact Or.inl ⟨hq, HI.out.skip HX.out (by rw [HQ.out]; exact hq)⟩
      rcases key with ⟨hq, hR⟩ | ⟨rfl, rfl, hR⟩ | ⟨a, r, rfl, rfl, han, hr, hs⟩
      · have e1 : (xq == nq) = false := beq_eq_false_iff_ne.2 hq
        clear hq HI
        refine region_gw (by kernel_rfl) (by kernel_rfl) ?_
        repeat (first
          | go_big_quiet_skip
          | quiet_step ((go_at_call 15; exact quiet_below (OC1 _))))
        refine wpQuiet_nil ?_
        intro u hw'
        obtain ⟨⟨u', hb⟩, e⟩ := hw'
        obtain rfl : u = u' := e
        clear OC1 y0 y1 y2 y3 p0 p2
        go_wp2_with fail
        go_roundw
        case rel => exact ⟨k + 1, z, by omega, by go_num, rfl, hR.out, HD.out ▸ H2.out.trans (hb.mono H2.out.size), B2.out.next hb⟩
        case measure => simp [intOf]; omega
      · clear HI
        refine region_gw (by kernel_rfl) (by kernel_rfl) ?_
        repeat (first
          | go_big_quiet_skip
          | quiet_step ((go_at_call 15; exact quiet_below (OC1 _))))
        refine wpQuiet_nil ?_
        intro u hw'
        obtain ⟨⟨u', hb⟩, e⟩ := hw'
        obtain rfl : u = u' := e
        clear OC1 y0 y1 y2 y3 p0 p2
        go_wp2_with fail
        go_roundw
        case rel => exact ⟨k + 1, (k : Int), by omega, by go_num, rfl, hR.out, HD.out ▸ H2.out.trans (hb.mono H2.out.size), B2.out.next hb⟩
        case measure => simp [intOf]; omega
      · have r0 : ∀ q : Gw v, q.v.cell? ⟨g, o + a * 4, none⟩ = some (.int .i64 r.s) := fun q => by
          obtain ⟨g', o', e', hg', c0, _⟩ := rd_pk (RW.out.below (H2.out.trans (q.le.mono H2.out.size))) hr.out
          cases e'
          exact c0
        obtain ⟨rs, rd', rq, rx⟩ := r
        simp only at r0 hs
        have a1' : (a : Int) < (nw : Int) := by omega
        have a2' : ¬ (a : Int) < 0 := by omega
        clear HI
        rcases hs with ⟨hs, hR⟩ | ⟨hs, hR⟩
        · refine region_gw (by kernel_rfl) (by kernel_rfl) ?_
          repeat (first
            | go_big_quiet_skip
            | quiet_step ((go_at_call 15; exact quiet_below (OC1 _))))
          refine wpQuiet_nil ?_
          intro u hw'
          obtain ⟨⟨u', hb⟩, e⟩ := hw'
          obtain rfl : u = u' := e
          clear OC1 y0 y1 y2 y3 p0 p2 r0
          go_wp2_with fail
          go_roundw
          case rel => exact ⟨k + 1, (k : Int), by omega, by go_num, rfl, hR.out, HD.out ▸ H2.out.trans (hb.mono H2.out.size), B2.out.next hb⟩
          case measure => simp [intOf]; omega
        · refine region_gw (by kernel_rfl) (by kernel_rfl) ?_
          repeat (first
            | go_big_quiet_skip
            | quiet_step ((go_at_call 15; exact quiet_below (OC1 _))))
          refine wpQuiet_nil ?_
          intro u hw'
          obtain ⟨⟨u', hb⟩, e⟩ := hw'
          obtain rfl : u = u' := e
          clear OC1 y0 y1 y2 y3 p0 p2 r0
          go_wp2_with fail
          go_roundw
          case rel => exact ⟨k + 1, (a : Int), by omega, by go_num, rfl, hR.out, HD.out ▸ H2.out.trans (hb.mono H2.out.size), B2.out.next hb⟩
          case measure => simp [intOf]; omega
    · obtain rfl : k = nw := by omega
      have t1 : ¬ ((k : Int) < (k : Int)) := by omega
      have HI : Hid (RdI nx W k z) := hI
      have y2 := hBk.cell 2
      simp only [List.getElem?_toArray, List.getElem?_cons_zero, List.getElem?_cons_succ] at y2
      have hBw : Hid (Below w.heap.size w wr) := by rw [HD.out]; exact hB
      clear hI hB hlt
      go_wp2_with fail
      go_ret
      exact ⟨z, rfl, HI.out, hBw.out⟩
end Go.Proofs.Ytpmkpjnhdehnhaa

/-
  The program's inbox: of those that wait, which one would be told; a loop over a map in whatever row.
-/
import Derived.Test.YtpmkpjnhdehnhaaIGet
namespace Go.Proofs.Ytpmkpjnhdehnhaa
open Go.RowKit

def fs (o : Option Pk) : Int := match o with | none => 0 | some p => p.s
def fq (o : Option Pk) : Int := match o with | none => 0 | some p => p.q
abbrev fstV (o : Option Pk) : Value := .tuple #[mkv (fs o) (fq o), .bool o.isSome]
/-- The best of those that have come by. -/
structure Bst (nx : Int → Int) (W left : List Pk) (o : Option Pk) : Prop where
  no : o = none → ∀ p ∈ W, p.q = nx p.s → p ∈ left
  yes : ∀ r, o = some r → r ∈ W ∧ r.q = nx r.s ∧ ∀ p ∈ W, p.q = nx p.s → p ∈ left ∨ r.s ≤ p.s
theorem Bst.start (nx : Int → Int) (W : List Pk) : Bst nx W W none := ⟨fun _ p hp _ => hp, fun _ h => (by cases h)⟩
theorem Bst.done {nx : Int → Int} {W : List Pk} {o : Option Pk} (h : Bst nx W [] o) (hW : Apart W) : pick nx W = o := by
  cases o with
  | none => exact pick_no fun p hp hq => (by have := h.no rfl p hp hq; cases this)
  | some r =>
    obtain ⟨h1, h2, h3⟩ := h.yes r rfl
    exact pick_uniq hW h1 h2 fun p hp hq => (h3 p hp hq).elim (fun c => by cases c) id
theorem Bst.better {nx : Int → Int} {W A B : List Pk} {x : Pk} {o : Option Pk} (h : Bst nx W (A ++ x :: B) o) (hx : x ∈ W) (hq : x.q = nx x.s) (hb : ∀ r, o = some r → x.s < r.s) : Bst nx W (A ++ B) (some x) := by
  refine ⟨fun e => (by cases e), fun r e => ?_⟩
  cases e
  refine ⟨hx, hq, fun p hp hpq => ?_⟩
  have key : p ∈ A ++ x :: B ∨ ∃ r, o = some r ∧ r.s ≤ p.s := by
    cases o with
    | none => exact Or.inl (h.no rfl p hp hpq)
    | some r => exact ((h.yes r rfl).2.2 p hp hpq).imp id fun c => ⟨r, rfl, c⟩
  rcases key with c | ⟨r, hr, c⟩
  · simp only [List.mem_append, List.mem_cons] at c ⊢
    rcases c with c | rfl | c
    · exact Or.inl (Or.inl c)
    · exact Or.inr (Int.le_refl _)
    · exact Or.inl (Or.inr c)
  · have := hb r hr
    exact Or.inr (by omega)
theorem Bst.other {nx : Int → Int} {W A B : List Pk} {x : Pk} {o : Option Pk} (h : Bst nx W (A ++ x :: B) o) (hn : x.q = nx x.s → ∃ r, o = some r ∧ r.s ≤ x.s) : Bst nx W (A ++ B) o := by
  have sub : ∀ p, p ∈ A ++ x :: B → p ∈ A ++ B ∨ p = x := fun p c => by
    simp only [List.mem_append, List.mem_cons] at c ⊢
    rcases c with c | c | c
    · exact Or.inl (Or.inl c)
    · exact Or.inr c
    · exact Or.inl (Or.inr c)
  refine ⟨fun e p hp hq => ?_, fun r e => ?_⟩
  · rcases sub p (h.no e p hp hq) with c | rfl
    · exact c
    · obtain ⟨r, hr, _⟩ := hn hq
      rw [e] at hr
      cases hr
  · obtain ⟨h1, h2, h3⟩ := h.yes r e
    refine ⟨h1, h2, fun p hp hq => ?_⟩
    rcases h3 p hp hq with c | c
    · rcases sub p c with c | rfl
      · exact Or.inl c
      · obtain ⟨r', hr, hl⟩ := hn hq
        rw [e] at hr
        cases hr
        exact Or.inr hl
    · exact Or.inr c
theorem ents_cut {left : List Pk} {A B : List (Value × Value)} {y : Value × Value} (h : left.map ent = A ++ y :: B) : ∃ A' x B', left = A' ++ x :: B' ∧ A = A'.map ent ∧ y = ent x ∧ B = B'.map ent := by
  obtain ⟨A', R, e1, e2, e3⟩ := List.map_eq_append_iff.1 h
  obtain ⟨x, B', e4, e5, e6⟩ := List.map_eq_cons_iff.1 e3
  exact ⟨A', x, B', by rw [e1, e4], e2.symm, e5.symm, e6.symm⟩
theorem Going.left_eq {w : World} {b r : Nat} {M left : List (Value × Value)} (h : Going w b r M left) : w.rangeLeft b r = left.length := by
  obtain ⟨es, clock, since, seen, c0, hb, _, _, hr, _, hl, _⟩ := h
  simp only [World.rangeLeft, hb, hr]
  rw [← hl, List.length_map, Array.length_toList]

set_option maxRecDepth 100000 in
set_option maxHeartbeats 4000000 in
theorem first_any {W : List Pk} {nx : Int → Int} {N : List (Int × Int)} {r mb nb : Nat} (w : World) (hm : MpAt w mb (W.map ent)) (hn : MpAt w nb (N.map nent)) (hr : ∀ p ∈ W, inR p) (hW : Apart W) (hk : ∀ x ∈ N, 0 ≤ x.1 ∧ x.1 < 4096) (hx : ∀ s, nxL N s = nx s) :
    Calls Try.prog 33 #[.agg (sti r mb nb)] w fun e w' => e = .returned (fstV (pick nx W)) ∧ Below w.heap.size w w' := by
  have B0 : Hid (Below w.heap.size w ((w.alloc (.cells (sti r mb nb) 67)).alloc (.cells #[.int .i64 0, .int .i64 0] 72))) := ((Below.refl _ _).alloc (Nat.le_refl _) _).alloc (by simp) _
  have S0 : Hid (Bk ((w.alloc (.cells (sti r mb nb) 67)).alloc (.cells #[.int .i64 0, .int .i64 0] 72)) w.heap.size (sti r mb nb) 67) := (Bk.new _ _ _).alloc _
  have L0 : Hid (Bk ((w.alloc (.cells (sti r mb nb) 67)).alloc (.cells #[.int .i64 0, .int .i64 0] 72)) (w.heap.size + 1) #[.int .i64 0, .int .i64 0] 72) := show _ from by
    have := Bk.new (w.alloc (.cells (sti r mb nb) 67)) #[.int .i64 0, .int .i64 0] 72
    rwa [show (w.alloc (.cells (sti r mb nb) 67)).heap.size = w.heap.size + 1 by simp] at this
  have z0 : ((w.alloc (.cells (sti r mb nb) 67)).alloc (.cells #[.int .i64 0, .int .i64 0] 72)).heap.size = w.heap.size + 2 := by simp
  have hm0 : MpAt ((w.alloc (.cells (sti r mb nb) 67)).alloc (.cells #[.int .i64 0, .int .i64 0] 72)) mb (W.map ent) := hm.keep (B0.out.block _ hm.lt)
  have hn0 : Hid (MpAt ((w.alloc (.cells (sti r mb nb) 67)).alloc (.cells #[.int .i64 0, .int .i64 0] 72)) nb (N.map nent)) := hn.keep (B0.out.block _ hn.lt)
  have hml := hm.lt
  have hnl := hn.lt
  simp only [sti] at *
  clear hm hn
  go_enter Try.func33, Try.ntmps33
  go_upto_region 1 with fail
  generalize (w.alloc (.cells #[.pointer (some ⟨r, 0, none⟩), .map (some mb), .map (some nb)] 67)).alloc (.cells #[.int .i64 0, .int .i64 0] 72) = v at *
  obtain ⟨c, hc⟩ : ∃ c, w.heap.size = c := ⟨_, rfl⟩
  rw [hc] at B0 S0 L0 z0 hml hnl ⊢
  have HC : Hid (w.heap.size = c) := hc
  clear hc
  obtain ⟨v0, hrun0, hG0, hb0, z1⟩ := hm0.range Try.underlying64
  have c0 := S0.out.cell 0
  have c1 := S0.out.cell 1
  have c2 := S0.out.cell 2
  simp only [List.getElem?_toArray, List.getElem?_cons_zero, List.getElem?_cons_succ] at c0 c1 c2
  rw [z0] at hrun0 hG0 hb0 z1
  go_wp2_with (first | (at_range; refine wpList_mrange rfl _ _ rfl rfl hrun0 ?_) | go_in)
  try go_frame
  have B1 : Below c w v0 := B0.out.trans (hb0.mono (by omega))
  have S1 : Bk v0 c #[.pointer (some ⟨r, 0, none⟩), .map (some mb), .map (some nb)] 67 := S0.out.below hb0 (by omega)
  have L1 : Bk v0 (c + 1) #[.int .i64 0, .int .i64 0] 72 := L0.out.below hb0 (by omega)
  have N1 : MpAt v0 nb (N.map nent) := hn0.out.keep (hb0.block _ (by omega))
  clear hrun0 hb0 B0 S0 L0 hn0 hm0 c0 c1 c2
  go_loopw [3] (fun s wr => ∃ left o, Going wr mb (c + 2) (W.map ent) (left.map ent) ∧ Bst nx W left o ∧ s = .bool o.isSome ∧ Bk wr (c + 1) #[.int .i64 (fs o), .int .i64 (fq o)] 72 ∧ Bk wr c #[.pointer (some ⟨r, 0, none⟩), .map (some mb), .map (some nb)] 67 ∧ Below c w wr ∧ MpAt wr nb (N.map nent) ∧ (∀ p ∈ left, p ∈ W)) (fun _ wr => wr.rangeLeft mb (c + 2))
  case atStart => exact ⟨W, none, hG0, Bst.start nx W, rfl, L1, S1, B1, N1, fun _ h => h⟩
  case round =>
    clear hG0 L1 S1 B1 N1 z0 z1
    obtain ⟨left, o, hG, hB, rfl, hL, hS, hbel, hN, hsub⟩ := hrel
    have HG : Hid (Going wr mb (c + 2) (W.map ent) (left.map ent)) := hG
    rcases hG.next (P := Try.prog) 0 with ⟨hl, hrun⟩ | ⟨A, y, B, w1, hl, hrun, hG1, hg1, hs1, hen⟩
    · have e0 : left = [] := List.map_eq_nil_iff.1 hl
      subst e0
      have e1 := hB.done hW
      have E : Hid (fstV (pick nx W) = .tuple #[.agg #[.int .i64 (fs o), .int .i64 (fq o)], .bool o.isSome]) := show fstV (pick nx W) = .tuple #[.agg #[.int .i64 (fs o), .int .i64 (fq o)], .bool o.isSome] from by rw [e1]
      have l0 := hL.cell 0
      have l1 := hL.cell 1
      have f0 := hL.free 0
      have f1 := hL.free 1
      simp only [List.getElem?_toArray, List.getElem?_cons_zero, List.getElem?_cons_succ] at l0 l1
      have Y := (hL.set 0 (.int .i64 (fs o))).set 1 (.int .i64 (fq o))
      have y0 := Y.cell 0
      have y1 := Y.cell 1
      simp at y0 y1
      have HB : Hid (Below c w ((wr.setCell ⟨c + 1, 0, none⟩ (.int .i64 (fs o))).setCell ⟨c + 1, 1, none⟩ (.int .i64 (fq o)))) := (hbel.setCell (by show c ≤ c + 1; omega) _).setCell (by show c ≤ c + 1; omega) _
      clear hB e1 hG HG hS hN hsub hbel hL Y hl
      generalize fs o = a1 at *
      generalize fq o = a2 at *
      generalize o.isSome = a3 at *
      go_wp2_with (first | (at_next; refine wpList_mnext rfl _ rfl rfl hrun ?_) | go_in)
      refine bodyPost_ret (v := .tuple #[.agg #[.int .i64 a1, .int .i64 a2], .bool a3]) ?_ rfl ?_
      · simp [results, Try.results33, go_sem, y0, y1]
      · exact ⟨congrArg Ending.returned E.out.symm, by rw [HC.out]; exact HB.out⟩
    · obtain ⟨A', x, B', e1, rfl, rfl, rfl⟩ := ents_cut hl
      subst e1
      rw [← List.map_append] at hG1
      have hxW : x ∈ W := hsub x (by simp)
      have hsz : c + 2 < wr.heap.size := hG.lt.2
      have kb : ∀ g, g < wr.heap.size → g ≠ c + 2 → w1.heap[g]? = wr.heap[g]? := fun g h1 h2 => hg1.block g h1 (fun e => h2 (by cases e; rfl))
      have L1 : Hid (Bk w1 (c + 1) #[.int .i64 (fs o), .int .i64 (fq o)] 72) := show _ from by unfold Bk; rw [kb _ hL.lt (by omega)]; exact hL
      have S1 : Hid (Bk w1 c #[.pointer (some ⟨r, 0, none⟩), .map (some mb), .map (some nb)] 67) := show _ from by unfold Bk; rw [kb _ hS.lt (by omega)]; exact hS
      have N1 : Hid (MpAt w1 nb (N.map nent)) := hN.keep (kb _ hN.lt (by omega))
      have B1 : Hid (Below c w w1) := hbel.grown hg1 (by omega) (fun k e => by cases e; omega)
      have HG1 : Hid (Going w1 mb (c + 2) (W.map ent) ((A' ++ B').map ent)) := hG1
      have HS1 : Hid (w1.heap.size = wr.heap.size) := hs1
      have wx := hr x hxW
      clear hL hS hN hbel hg1 hG hG1 kb hl hs1
      obtain ⟨xs, xd, xq, xx⟩ := x
      simp only [ent, pkv, pkc, mkv] at hrun hen
      go_upto_region 4 with (first | (at_next; refine wpList_mnext rfl _ rfl rfl hrun ?_) | go_in)
      have L2 : Hid (Bk (w1.alloc (.cells #[.int .i64 xs, .int .i64 xq] 72)) (c + 1) #[.int .i64 (fs o), .int .i64 (fq o)] 72) := L1.out.alloc _
      have S2 : Hid (Bk (w1.alloc (.cells #[.int .i64 xs, .int .i64 xq] 72)) c #[.pointer (some ⟨r, 0, none⟩), .map (some mb), .map (some nb)] 67) := S1.out.alloc _
      have M2 : Hid (Bk (w1.alloc (.cells #[.int .i64 xs, .int .i64 xq] 72)) w1.heap.size #[.int .i64 xs, .int .i64 xq] 72) := Bk.new _ _ _
      have N2 : Hid (MpAt (w1.alloc (.cells #[.int .i64 xs, .int .i64 xq] 72)) nb (N.map nent)) := N1.out.keep (Below.heap_alloc _ _ _ N1.out.lt)
      have B2 : Hid (Below c w (w1.alloc (.cells #[.int .i64 xs, .int .i64 xq] 72))) := B1.out.alloc (by have := HS1.out; omega) _
      have HG2 : Hid (Going (w1.alloc (.cells #[.int .i64 xs, .int .i64 xq] 72)) mb (c + 2) (W.map ent) ((A' ++ B').map ent)) := HG1.out.keep (Below.heap_alloc _ _ _ HG1.out.lt.1) (Below.heap_alloc _ _ _ HG1.out.lt.2)
      clear hrun hen L1 S1 N1 B1 HG1
      generalize w1.alloc (.cells #[.int .i64 xs, .int .i64 xq] 72) = v2 at *
      obtain ⟨d, hd⟩ : ∃ d, w1.heap.size = d := ⟨_, rfl⟩
      have hdc : c + 2 < d := by have := HS1.out; omega
      rw [hd] at M2 ⊢
      clear hd HS1
      have m0 := M2.out.cell 0
      have m1 := M2.out.cell 1
      have s2 := S2.out.cell 2
      have l0 := L2.out.cell 0
      have l1 := L2.out.cell 1
      have f0 := L2.out.free 0
      have f1 := L2.out.free 1
      simp only [List.getElem?_toArray, List.getElem?_cons_zero, List.getElem?_cons_succ] at m0 m1 s2 l0 l1
      have LK := look_next N2.out hk (s := xs) (wf_small (by have := wx.1; simp only at this; omega) (by have := wx.2.1; simp only at this; omega))
      rw [hx xs] at LK
      have SET : Hid (Bk ((v2.setCell ⟨c + 1, 0, none⟩ (.int .i64 xs)).setCell ⟨c + 1, 1, none⟩ (.int .i64 xq)) (c + 1) #[.int .i64 xs, .int .i64 xq] 72) := show Bk ((v2.setCell ⟨c + 1, 0, none⟩ (.int .i64 xs)).setCell ⟨c + 1, 1, none⟩ (.int .i64 xq)) (c + 1) #[.int .i64 xs, .int .i64 xq] 72 from by
        have := (L2.out.set 0 (.int .i64 xs)).set 1 (.int .i64 xq)
        simpa using this
      have FAR : Hid (Bk ((v2.setCell ⟨c + 1, 0, none⟩ (.int .i64 xs)).setCell ⟨c + 1, 1, none⟩ (.int .i64 xq)) c #[.pointer (some ⟨r, 0, none⟩), .map (some mb), .map (some nb)] 67) := (S2.out.far (by omega)).far (by omega)
      have BEL : Hid (Below c w ((v2.setCell ⟨c + 1, 0, none⟩ (.int .i64 xs)).setCell ⟨c + 1, 1, none⟩ (.int .i64 xq))) := (B2.out.setCell (by show c ≤ c + 1; omega) _).setCell (by show c ≤ c + 1; omega) _
      have hset : ∀ g, g ≠ c + 1 → ((v2.setCell ⟨c + 1, 0, none⟩ (.int .i64 xs)).setCell ⟨c + 1, 1, none⟩ (.int .i64 xq)).heap[g]? = v2.heap[g]? := fun g hg => (Below.heap_setCell _ _ _ g hg).trans (Below.heap_setCell _ _ _ g hg)
      have NUM : Hid (MpAt ((v2.setCell ⟨c + 1, 0, none⟩ (.int .i64 xs)).setCell ⟨c + 1, 1, none⟩ (.int .i64 xq)) nb (N.map nent)) := N2.out.keep (hset _ (by omega))
      have END : Hid (Going ((v2.setCell ⟨c + 1, 0, none⟩ (.int .i64 xs)).setCell ⟨c + 1, 1, none⟩ (.int .i64 xq)) mb (c + 2) (W.map ent) ((A' ++ B').map ent)) := HG2.out.keep (hset _ (by omega)) (hset _ (by omega))
      have SUB : Hid (∀ p ∈ A' ++ B', p ∈ W) := show _ from fun p hp => hsub p (by
        simp only [List.mem_append, List.mem_cons] at hp ⊢
        exact hp.elim Or.inl (fun c => Or.inr (Or.inr c)))
      clear hset hsub M2 wx
      obtain ⟨q, hq⟩ : ∃ q, q = nx xs := ⟨_, rfl⟩
      rw [← hq] at LK
      by_cases h1 : xq = q
      · have t1 : (xq == q) = true := beq_iff_eq.2 h1
        cases o with
        | none =>
          have hBB : Bst nx W (A' ++ B') (some ⟨xs, xd, xq, xx⟩) := hB.better hxW (h1.trans hq) (fun r e => by cases e)
          clear hB hxW hq h1
          simp only [fs, fq, Option.isSome_none] at *
          go_wp2_with (first | (at_lookup; refine wpList_mlook rfl _ _ _ _ rfl rfl rfl LK ?_) | go_in)
          go_roundw
          case rel => exact ⟨A' ++ B', some ⟨xs, xd, xq, xx⟩, END.out, hBB, rfl, SET.out, FAR.out, BEL.out, NUM.out, SUB.out⟩
          case measure => rw [END.out.left_eq, HG.out.left_eq]; simp
        | some r0 =>
          obtain ⟨rs, rd, rq, rx⟩ := r0
          by_cases h2 : xs < rs
          · have hBB : Bst nx W (A' ++ B') (some ⟨xs, xd, xq, xx⟩) := hB.better hxW (h1.trans hq) (fun r e => by cases e; exact h2)
            clear hB hxW hq h1
            simp only [fs, fq, Option.isSome_some] at *
            go_wp2_with (first | (at_lookup; refine wpList_mlook rfl _ _ _ _ rfl rfl rfl LK ?_) | go_in)
            go_roundw
            case rel => exact ⟨A' ++ B', some ⟨xs, xd, xq, xx⟩, END.out, hBB, rfl, SET.out, FAR.out, BEL.out, NUM.out, SUB.out⟩
            case measure => rw [END.out.left_eq, HG.out.left_eq]; simp
          · have hBB : Bst nx W (A' ++ B') (some ⟨rs, rd, rq, rx⟩) := hB.other (fun _ => ⟨_, rfl, by show rs ≤ xs; omega⟩)
            clear hB hxW hq h1
            simp only [fs, fq, Option.isSome_some] at *
            go_wp2_with (first | (at_lookup; refine wpList_mlook rfl _ _ _ _ rfl rfl rfl LK ?_) | go_in)
            go_roundw
            case rel => exact ⟨A' ++ B', _, HG2.out, hBB, rfl, L2.out, S2.out, B2.out, N2.out, SUB.out⟩
            case measure => rw [HG2.out.left_eq, HG.out.left_eq]; simp
      · have t1 : (xq == q) = false := beq_eq_false_iff_ne.2 h1
        have hBB : Bst nx W (A' ++ B') o := hB.other (fun e => absurd (e.trans hq.symm) h1)
        clear hB hxW hq h1
        generalize hfs : fs o = a1 at *
        generalize hfq : fq o = a2 at *
        generalize his : o.isSome = a3 at *
        have HFS : Hid (fs o = a1 ∧ fq o = a2 ∧ o.isSome = a3) := ⟨hfs, hfq, his⟩
        clear hfs hfq his
        go_wp2_with (first | (at_lookup; refine wpList_mlook rfl _ _ _ _ rfl rfl rfl LK ?_) | go_in)
        go_roundw
        case rel => exact ⟨A' ++ B', o, HG2.out, hBB, by rw [HFS.out.2.2], by rw [HFS.out.1, HFS.out.2.1]; exact L2.out, S2.out, B2.out, N2.out, SUB.out⟩
        case measure => rw [HG2.out.left_eq, HG.out.left_eq]; simp
end Go.Proofs.Ytpmkpjnhdehnhaa

/-
  The document's inbox by value: one is told. (Written by gen_irj.py.)
-/
import Derived.Test.YtpmkpjnhdehnhaaIRi
import Derived.Deep.CutBlock
namespace Go.Proofs.Ytpmkpjnhdehnhaa
open Go.RowKit

theorem RR.grown {w w' : World} {v : Value} {n : Nat} {cs : List Value} {r : Option Nat} (h : RR w v n cs) (g : w.grownBy w' r) (hr : ∀ q, v.ownBlock = some q → r ≠ some q) : RR w' v n cs := by
  obtain ⟨⟨a, c, rfl, h1, h2, h3, h4⟩, h5⟩ := h
  refine ⟨⟨a, c, rfl, h1, h2, h3, fun j x hj => ?_⟩, fun q hq => Nat.lt_of_lt_of_le (h5 q hq) g.size⟩
  obtain ⟨q, o, rfl, hq, hc⟩ := h4 j x hj
  exact ⟨q, o, rfl, Nat.lt_of_lt_of_le hq g.size, by rw [World.cell?_of_block (g.block q hq fun c => hr q rfl c.symm)]; exact hc⟩
/-- The call's blocks: the box, the result, the packet; since w. -/
structure TX (w v : World) (d e : Nat) (c0 c1 c2 c3 p0 p1 p2 p3 : Value) : Prop where
  D : Bk v d #[c0, c1, c2, c3] 29
  R : Bk v (d + 1) #[.int .i64 0, .slice none 0 0, .slice none 0 0, .slice none 0 0] 29
  K : Bk v e #[p0, p1, p2, p3] 33
  bl : Below w.heap.size w v
  hd : w.heap.size = d
  he : d + 1 < e
section
variable {w v v' : World} {d e : Nat} {c0 c1 c2 c3 p0 p1 p2 p3 : Value}
theorem TX.grow {r : Option Nat} (h : TX w v d e c0 c1 c2 c3 p0 p1 p2 p3) (g : v.grownBy v' r) (hr : ∀ j, r = some j → e < j) : TX w v' d e c0 c1 c2 c3 p0 p1 p2 p3 := by
  have he := h.he
  have hd := h.hd
  exact ⟨h.D.kept g fun c => by have := hr _ c; omega, h.R.kept g fun c => by have := hr _ c; omega, h.K.kept g fun c => by have := hr _ c; omega, h.bl.grown g h.bl.size fun j hj => by have := hr j hj; omega, hd, he⟩
theorem TX.set1 (h : TX w v d e c0 c1 c2 c3 p0 p1 p2 p3) (x : Value) : TX w (v.setCell ⟨d, 1, none⟩ x) d e c0 x c2 c3 p0 p1 p2 p3 :=
  ⟨h.D.set 1 x, h.R.far (by omega), h.K.far (by have := h.he; omega), h.bl.setCell (by show w.heap.size ≤ d; rw [h.hd]; exact Nat.le_refl _) _, h.hd, h.he⟩
theorem TX.set2 (h : TX w v d e c0 c1 c2 c3 p0 p1 p2 p3) (x : Value) : TX w (v.setCell ⟨d, 2, none⟩ x) d e c0 c1 x c3 p0 p1 p2 p3 :=
  ⟨h.D.set 2 x, h.R.far (by omega), h.K.far (by have := h.he; omega), h.bl.setCell (by show w.heap.size ≤ d; rw [h.hd]; exact Nat.le_refl _) _, h.hd, h.he⟩
theorem TX.set3 (h : TX w v d e c0 c1 c2 c3 p0 p1 p2 p3) (x : Value) : TX w (v.setCell ⟨d, 3, none⟩ x) d e c0 c1 c2 x p0 p1 p2 p3 :=
  ⟨h.D.set 3 x, h.R.far (by omega), h.K.far (by have := h.he; omega), h.bl.setCell (by show w.heap.size ≤ d; rw [h.hd]; exact Nat.le_refl _) _, h.hd, h.he⟩
theorem TX.next (h : TX w v d e c0 c1 c2 c3 p0 p1 p2 p3) (b : Below v.heap.size v v') : TX w v' d e c0 c1 c2 c3 p0 p1 p2 p3 := ⟨h.D.next b, h.R.next b, h.K.next b, h.bl.trans (b.mono h.bl.size), h.hd, h.he⟩
end
/-- A row of the call's own that is ready. -/
structure FR (v : World) (e M : Nat) (y : Value) (n : Nat) (cs : List Value) : Prop where
  r : RR v y n cs
  b : ∀ g, y.ownBlock = some g → e < g ∧ g < M
section
variable {v v' : World} {e M n : Nat} {y : Value} {cs : List Value}
theorem FR.grow {r : Option Nat} (h : FR v e M y n cs) (g : v.grownBy v' r) (hr : ∀ j, r = some j → j ≤ e ∨ M ≤ j) : FR v' e M y n cs :=
  ⟨h.r.grown g fun q hq c => by have := hr q c; have := h.b q hq; omega, h.b⟩
theorem FR.next (h : FR v e M y n cs) (b : Below v.heap.size v v') : FR v' e M y n cs := ⟨h.r.next b, h.b⟩
theorem FR.own {t : TypeId} {k B : Nat} (h : OwnK t k v B y n cs) (hk : 0 < k) (hB : e < B) : FR v e v.heap.size y n cs := ⟨RR.own h hk, fun _ hg => ⟨Nat.lt_of_lt_of_le hB (h.lt hg).1, (h.lt hg).2⟩⟩
end
theorem Try.info70' : (Try.prog.info? 70).map (fun i => (i.zero, i.size, i.bytes)) = some (some (.agg #[.int .i64 0, .int .i64 0]), 2, 16) := by kernel_rfl
theorem strike_at {W : List Pk} (h : Apart W) {A B : List Pk} {p : Pk} (e : W = A ++ p :: B) : strike W p = A ++ B := strike_cut h e
theorem prcs_app (l m : List (Int × Int)) : prcs (l ++ m) = prcs l ++ prcs m := List.flatMap_append
abbrev nflt (N : List (Int × Int)) (s : Int) : List (Int × Int) := N.filter fun y => !(y.1 == s)
theorem nflt_in {N : List (Int × Int)} {k : Nat} {x : Int × Int} {s : Int} (hk : N[k]? = some x) (h : x.1 ≠ s) : nflt (N.take (k + 1)) s = nflt (N.take k) s ++ [x] := by
  unfold nflt
  rw [List.take_add_one, hk, List.filter_append]
  simp [h]
theorem nflt_out {N : List (Int × Int)} {k : Nat} {x : Int × Int} {s : Int} (hk : N[k]? = some x) (h : x.1 = s) : nflt (N.take (k + 1)) s = nflt (N.take k) s := by
  unfold nflt
  rw [List.take_add_one, hk, List.filter_append]
  simp [h]
theorem split_pk (l : List Pk) (z : Nat) (p : Pk) (h : l[z]? = some p) : ∃ A B, l = A ++ p :: B ∧ A.length = z ∧ z + 1 + B.length = l.length := by
  obtain ⟨hz, rfl⟩ := List.getElem?_eq_some_iff.1 h
  refine ⟨l.take z, l.drop (z + 1), ?_, by simp; omega, by simp; omega⟩
  rw [← List.drop_eq_getElem_cons hz, List.take_append_drop]
set_option maxRecDepth 100000 in
set_option maxHeartbeats 8000000 in
theorem rtell_any {w : World} {S : IS} {N : List (Int × Int)} {sl sw sn : Value} (h : RB w S N sl sw sn) (ok : IOk S) (hW : S.W.length ≤ 1000) (hN : N.length ≤ 1000) :
    Calls Try.prog 18 #[bvv S.n sl sw sn] w fun e w' => ∃ sl' sw' sn' N', e = .returned (.tuple #[bvv (tellS S).n sl' sw' sn', .bool (tellB S)]) ∧ RB w' (tellS S) N' sl' sw' sn' ∧ Below w.heap.size w w' ∧ (∀ g, sl'.ownBlock = some g ∨ sw'.ownBlock = some g ∨ sn'.ownBlock = some g → (sl.ownBlock = some g ∨ sw.ownBlock = some g ∨ sn.ownBlock = some g) ∨ w.heap.size ≤ g) ∧ N'.length ≤ N.length + 1 := by
  obtain ⟨i0, ki, hz0, hz1, hz2⟩ := info_parts Try.info33'
  obtain ⟨i1, kj, hy0, hy1, hy2⟩ := info_parts Try.info70'
  have HRB : Hid (RB w S N sl sw sn) := h
  have OK : Hid (IOk S) := ok
  have RD : Hid (∀ v, Below w.heap.size w v → Calls Try.prog 28 #[bvv S.n sl sw sn] v fun e w' => ∃ z, e = .returned (.int .i64 z) ∧ RdI S.nx S.W S.W.length z ∧ Below v.heap.size v w') := show _ from fun v hv => rready_any (h.next hv) hW
  obtain ⟨h1, h2, h3, hnx⟩ := h
  obtain ⟨⟨a1, b1, rfl, l1, m1, z1, r1⟩, q1⟩ := h1
  obtain ⟨⟨a2, b2, rfl, l2, m2, z2, r2⟩, q2⟩ := h2
  obtain ⟨⟨a3, b3, rfl, l3, m3, z3, r3⟩, q3⟩ := h3
  obtain ⟨n0, hn0⟩ : ∃ n0 : Int, (S.n : Int) = n0 := ⟨_, rfl⟩
  have HN0 : Hid ((S.n : Int) = n0) := hn0
  rw [hn0] at RD ⊢
  obtain ⟨nl, hnl⟩ : ∃ nl, S.L.length = nl := ⟨_, rfl⟩
  have HNL : Hid (S.L.length = nl) := hnl
  obtain ⟨nw, hnw⟩ : ∃ nw, S.W.length = nw := ⟨_, rfl⟩
  have HNW : Hid (S.W.length = nw) := hnw
  obtain ⟨nn, hnn⟩ : ∃ nn, N.length = nn := ⟨_, rfl⟩
  have HNN : Hid (N.length = nn) := hnn
  rw [hnl] at HRB RD l1 ⊢
  rw [hnw] at HRB RD hW l2 ⊢
  rw [hnn] at HRB RD hN l3 ⊢
  have nl64 : nl ≤ 64 := by have := ok.len; have := ok.n64; omega
  have RL : Hid (Rd w a1 (pkcs S.L)) := r1
  have RW : Hid (Rd w a2 (pkcs S.W)) := r2
  have RN : Hid (Rd w a3 (prcs N)) := r3
  have Z1 : Hid (a1 = none → nl = 0 ∧ b1 = 0) := show _ from fun e => ⟨by have := z1 e; omega, z1 e⟩
  have M2 : Hid (b2 ≤ maxLen) := m2
  clear m1 z1 r1 q1 m2 z2 r2 q2 m3 z3 r3 q3 hnx hn0 hnl hnw hnn ok
  have D0 : Hid (Bk ((w.alloc (.cells #[.int .i64 n0, .slice a1 nl b1, .slice a2 nw b2, .slice a3 nn b3] 29)).alloc (.cells #[.int .i64 0, .slice none 0 0, .slice none 0 0, .slice none 0 0] 29)) w.heap.size #[.int .i64 n0, .slice a1 nl b1, .slice a2 nw b2, .slice a3 nn b3] 29) := (Bk.new w _ _).alloc _
  have DB : Hid (Bk ((w.alloc (.cells #[.int .i64 n0, .slice a1 nl b1, .slice a2 nw b2, .slice a3 nn b3] 29)).alloc (.cells #[.int .i64 0, .slice none 0 0, .slice none 0 0, .slice none 0 0] 29)) (w.heap.size + 1) #[.int .i64 0, .slice none 0 0, .slice none 0 0, .slice none 0 0] 29) := by
    have := Bk.new (w.alloc (.cells #[.int .i64 n0, .slice a1 nl b1, .slice a2 nw b2, .slice a3 nn b3] 29)) #[.int .i64 0, .slice none 0 0, .slice none 0 0, .slice none 0 0] 29
    rwa [show (w.alloc (.cells #[.int .i64 n0, .slice a1 nl b1, .slice a2 nw b2, .slice a3 nn b3] 29)).heap.size = w.heap.size + 1 by simp] at this
  have HB : Hid (Below w.heap.size w ((w.alloc (.cells #[.int .i64 n0, .slice a1 nl b1, .slice a2 nw b2, .slice a3 nn b3] 29)).alloc (.cells #[.int .i64 0, .slice none 0 0, .slice none 0 0, .slice none 0 0] 29))) := ((Below.refl _ _).alloc (Nat.le_refl _) _).alloc (by simp) _
  have RD1 := RD.out _ HB.out
  simp only [bvv] at *
  clear RD
  go_enter Try.func18, Try.ntmps18
  go_upto_region 1 with fail
  generalize ((w.alloc (.cells #[.int .i64 n0, .slice a1 nl b1, .slice a2 nw b2, .slice a3 nn b3] 29)).alloc (.cells #[.int .i64 0, .slice none 0 0, .slice none 0 0, .slice none 0 0] 29)) = w2 at *
  obtain ⟨d, hd⟩ : ∃ d, w.heap.size = d := ⟨_, rfl⟩
  have HD : Hid (w.heap.size = d) := hd
  rw [hd] at D0 DB ⊢
  clear hd
  have y0 := D0.out.cell 0
  have y1 := D0.out.cell 1
  have y2 := D0.out.cell 2
  have y3 := D0.out.cell 3
  simp only [List.getElem?_toArray, List.getElem?_cons_zero, List.getElem?_cons_succ] at y0 y1 y2 y3
  go_upto_region 2 with (go_at_call 28; with_reducible refine RD1.mono ?_; rintro e w3 ⟨z, rfl, hz, hb3⟩)
  have D3 : Hid (Bk w3 d #[.int .i64 n0, .slice a1 nl b1, .slice a2 nw b2, .slice a3 nn b3] 29) := D0.out.next hb3
  have DB3 : Hid (Bk w3 (d + 1) #[.int .i64 0, .slice none 0 0, .slice none 0 0, .slice none 0 0] 29) := DB.out.next hb3
  have HB3 : Hid (Below w.heap.size w w3) := HB.out.trans (hb3.mono HB.out.size)
  have hz2' := RdI.out OK.out (by rw [HNW.out]; exact hz)
  clear D0 DB HB RD1 y0 y1 y2 y3 hb3 hz
  have y0 := D3.out.cell 0
  have y1 := D3.out.cell 1
  have y2 := D3.out.cell 2
  have y3 := D3.out.cell 3
  simp only [List.getElem?_toArray, List.getElem?_cons_zero, List.getElem?_cons_succ] at y0 y1 y2 y3
  have key : (((z = -1) ∨ (∃ a : Nat, z = (a : Int) ∧ n0 ≤ (nl : Int))) ∧ tellB S = false ∧ tellS S = S) ∨ ∃ (a : Nat) (p : Pk), z = (a : Int) ∧ ¬ n0 ≤ (nl : Int) ∧ a < nw ∧ Hid (S.W[a]? = some p) ∧ tellB S = true ∧ tellS S = told S p := by
    have e0 := HN0.out
    have e1 := HNL.out
    have e2 := HNW.out
    rcases tell_cases S with ⟨hl, ⟨hr, q1, q2⟩ | ⟨p, hr, q1, q2⟩⟩ | ⟨hl, q1, q2⟩
    · rcases hz2' with ⟨h1, _⟩ | ⟨a, p, h1, h2, h3⟩
      · exact Or.inl ⟨Or.inl h1, q2, q1⟩
      · rw [hr] at h3; cases h3
    · rcases hz2' with ⟨h1, h2⟩ | ⟨a, p', h1, h2, h3⟩
      · rw [hr] at h2; cases h2
      · rw [hr] at h3
        cases h3
        exact Or.inr ⟨a, p, h1, by omega, by rw [← e2]; exact (List.getElem?_eq_some_iff.1 h2).1, h2, q2, q1⟩
    · refine Or.inl ⟨?_, q2, q1⟩
      rcases hz2' with ⟨h1, _⟩ | ⟨a, p', h1, _, _⟩
      · exact Or.inl h1
      · exact Or.inr ⟨a, h1, by omega⟩
  clear hz2'
  rcases key with ⟨hc, tb, ts⟩ | ⟨a, p, rfl, hnl, haw, hp, tb, ts⟩
  · have CE : Hid (tellB S = false ∧ tellS S = S) := ⟨tb, ts⟩
    rcases hc with rfl | ⟨a, rfl, hge⟩
    · have y0 := D3.out.cell 0
      have y1 := D3.out.cell 1
      have y2 := D3.out.cell 2
      have y3 := D3.out.cell 3
      have v0 := DB3.out.cell 0
      have v1 := DB3.out.cell 1
      have v2 := DB3.out.cell 2
      have v3 := DB3.out.cell 3
      have f0 := DB3.out.free 0
      have f1 := DB3.out.free 1
      have f2 := DB3.out.free 2
      have f3 := DB3.out.free 3
      simp only [List.getElem?_toArray, List.getElem?_cons_zero, List.getElem?_cons_succ] at y0 y1 y2 y3 v0 v1 v2 v3
      have DR : Hid (Bk ((((w3.setCell ⟨d + 1, 0, none⟩ (.int .i64 n0)).setCell ⟨d + 1, 1, none⟩ (.slice a1 nl b1)).setCell ⟨d + 1, 2, none⟩ (.slice a2 nw b2)).setCell ⟨d + 1, 3, none⟩ (.slice a3 nn b3)) (d + 1) #[.int .i64 n0, .slice a1 nl b1, .slice a2 nw b2, .slice a3 nn b3] 29) := set_four DB3.out _ _ _ _
      have BR : Hid (Below w.heap.size w ((((w3.setCell ⟨d + 1, 0, none⟩ (.int .i64 n0)).setCell ⟨d + 1, 1, none⟩ (.slice a1 nl b1)).setCell ⟨d + 1, 2, none⟩ (.slice a2 nw b2)).setCell ⟨d + 1, 3, none⟩ (.slice a3 nn b3))) := below_four HB3.out (by have := HD.out; omega) _ _ _ _
      have GR : Hid (w3.grownBy ((((w3.setCell ⟨d + 1, 0, none⟩ (.int .i64 n0)).setCell ⟨d + 1, 1, none⟩ (.slice a1 nl b1)).setCell ⟨d + 1, 2, none⟩ (.slice a2 nw b2)).setCell ⟨d + 1, 3, none⟩ (.slice a3 nn b3)) (some (d + 1))) := grown_four _ _ _ _ _ _
      clear D3 DB3 HB3 RL RW RN tb ts
      go_wp2_with fail
      generalize ((((w3.setCell ⟨d + 1, 0, none⟩ (.int .i64 n0)).setCell ⟨d + 1, 1, none⟩ (.slice a1 nl b1)).setCell ⟨d + 1, 2, none⟩ (.slice a2 nw b2)).setCell ⟨d + 1, 3, none⟩ (.slice a3 nn b3)) = v9 at *
      have Y0 := DR.out.cell 0
      have Y1 := DR.out.cell 1
      have Y2 := DR.out.cell 2
      have Y3 := DR.out.cell 3
      simp only [List.getElem?_toArray, List.getElem?_cons_zero, List.getElem?_cons_succ] at Y0 Y1 Y2 Y3
      refine bodyPost_ret (v := .tuple #[.agg #[.int .i64 n0, .slice a1 nl b1, .slice a2 nw b2, .slice a3 nn b3], .bool false]) (by simp [results, Try.results18, go_sem, Y0, Y1, Y2, Y3]; try rfl) rfl ?_
      refine ⟨_, _, _, N, by rw [CE.out.1, CE.out.2, HN0.out], by rw [CE.out.2]; exact HRB.out.next BR.out, BR.out, fun g' hg' => Or.inl hg', by have := HNN.out; omega⟩
    · have y0 := D3.out.cell 0
      have y1 := D3.out.cell 1
      have y2 := D3.out.cell 2
      have y3 := D3.out.cell 3
      have v0 := DB3.out.cell 0
      have v1 := DB3.out.cell 1
      have v2 := DB3.out.cell 2
      have v3 := DB3.out.cell 3
      have f0 := DB3.out.free 0
      have f1 := DB3.out.free 1
      have f2 := DB3.out.free 2
      have f3 := DB3.out.free 3
      simp only [List.getElem?_toArray, List.getElem?_cons_zero, List.getElem?_cons_succ] at y0 y1 y2 y3 v0 v1 v2 v3
      have DR : Hid (Bk ((((w3.setCell ⟨d + 1, 0, none⟩ (.int .i64 n0)).setCell ⟨d + 1, 1, none⟩ (.slice a1 nl b1)).setCell ⟨d + 1, 2, none⟩ (.slice a2 nw b2)).setCell ⟨d + 1, 3, none⟩ (.slice a3 nn b3)) (d + 1) #[.int .i64 n0, .slice a1 nl b1, .slice a2 nw b2, .slice a3 nn b3] 29) := set_four DB3.out _ _ _ _
      have BR : Hid (Below w.heap.size w ((((w3.setCell ⟨d + 1, 0, none⟩ (.int .i64 n0)).setCell ⟨d + 1, 1, none⟩ (.slice a1 nl b1)).setCell ⟨d + 1, 2, none⟩ (.slice a2 nw b2)).setCell ⟨d + 1, 3, none⟩ (.slice a3 nn b3))) := below_four HB3.out (by have := HD.out; omega) _ _ _ _
      have GR : Hid (w3.grownBy ((((w3.setCell ⟨d + 1, 0, none⟩ (.int .i64 n0)).setCell ⟨d + 1, 1, none⟩ (.slice a1 nl b1)).setCell ⟨d + 1, 2, none⟩ (.slice a2 nw b2)).setCell ⟨d + 1, 3, none⟩ (.slice a3 nn b3)) (some (d + 1))) := grown_four _ _ _ _ _ _
      clear D3 DB3 HB3 RL RW RN tb ts
      go_wp2_with fail
      generalize ((((w3.setCell ⟨d + 1, 0, none⟩ (.int .i64 n0)).setCell ⟨d + 1, 1, none⟩ (.slice a1 nl b1)).setCell ⟨d + 1, 2, none⟩ (.slice a2 nw b2)).setCell ⟨d + 1, 3, none⟩ (.slice a3 nn b3)) = v9 at *
      have Y0 := DR.out.cell 0
      have Y1 := DR.out.cell 1
      have Y2 := DR.out.cell 2
      have Y3 := DR.out.cell 3
      simp only [List.getElem?_toArray, List.getElem?_cons_zero, List.getElem?_cons_succ] at Y0 Y1 Y2 Y3
      refine bodyPost_ret (v := .tuple #[.agg #[.int .i64 n0, .slice a1 nl b1, .slice a2 nw b2, .slice a3 nn b3], .bool false]) (by simp [results, Try.results18, go_sem, Y0, Y1, Y2, Y3]; try rfl) rfl ?_
      refine ⟨_, _, _, N, by rw [CE.out.1, CE.out.2, HN0.out], by rw [CE.out.2]; exact HRB.out.next BR.out, BR.out, fun g' hg' => Or.inl hg', by have := HNN.out; omega⟩
  · have CE : Hid (tellB S = true ∧ tellS S = told S p) := ⟨tb, ts⟩
    obtain ⟨g, o, ha, hg, c0, c1, c2, c3⟩ := rd_pk (RW.out.below HB3.out) hp.out
    subst ha
    have t1 : (a : Int) < (nw : Int) := by omega
    have t2 : ¬ (a : Int) < 0 := by omega
    have t3 : ((a : Int) < 0) = False := eq_false t2
    obtain ⟨ps, pd, pq, px⟩ := p
    simp only at c0 c1 c2 c3
    clear tb ts
    go_upto_region 6 with fail
    have TX4 : Hid (TX w (w3.alloc (.cells #[.int .i64 ps, .int .i64 pd, .int .i64 pq, .string px] 33)) d w3.heap.size (.int .i64 n0) (.slice a1 nl b1) (.slice (some ⟨g, o, none⟩) nw b2) (.slice a3 nn b3) (.int .i64 ps) (.int .i64 pd) (.int .i64 pq) (.string px)) := ⟨D3.out.alloc _, DB3.out.alloc _, Bk.new w3 _ _, HB3.out.alloc HB3.out.size _, HD.out, DB3.out.lt⟩
    clear D3 DB3 HB3 y0 y1 y2 y3 c0 c1 c2 c3
    generalize w3.alloc (.cells #[.int .i64 ps, .int .i64 pd, .int .i64 pq, .string px] 33) = v4 at *
    generalize w3.heap.size = e at *
    obtain ⟨A, Bq, hAB, hA, hB⟩ := split_pk S.W a _ hp.out
    rw [HNW.out] at hB
    have HAB : Hid (S.W = A ++ ⟨ps, pd, pq, px⟩ :: Bq) := hAB
    have rd4 := RW.out.below TX4.out.bl
    rw [hAB] at rd4
    have rdA := rd_left rd4
    have hlA : (pkcs A).length = a * 4 := by rw [pkcs_len, hA]
    have oA := pkcs_one A
    have hzm : 0 + a ≤ 1000000 := by omega
    have nn1 : (some ⟨g, o, none⟩ : Option Addr) = none → a = 0 ∧ b2 = 0 := fun h => by cases h
    obtain ⟨m1, hm1⟩ : ∃ m1, v4.heap.size = m1 := ⟨_, rfl⟩
    have hb1 : m1 ≤ v4.heap.size := Nat.le_of_eq hm1.symm
    have em1 : e < m1 := by rw [← hm1]; exact TX4.out.K.lt
    have hac : a ≤ b2 := by omega
    have HA : Hid (A.length = a) := hA
    have HBq : Hid (a + 1 + Bq.length = nw) := hB
    have y2 := TX4.out.D.cell 2
    simp only [List.getElem?_toArray, List.getElem?_cons_zero, List.getElem?_cons_succ] at y2
    clear rd4 hAB hA hB hm1 hg
    go_upto_region 7 with (first
      | (at_builtin; refine wpList_src_at rfl _ _ 26 33 i0 (.agg #[.int .i64 0, .int .i64 0, .int .i64 0, .string ⟨#[]⟩]) 4 40 rfl Try.underlying26 ki hz0 hz1 hz2 rfl (by decide) (by decide) m1 _ (.slice none 0 0) 0 [] rfl (OwnK.nil _ _ _ _) (some ⟨g, o, none⟩) a b2 rfl nn1 (pkcs A) hlA rdA oA hzm hb1 ?_; intro v6 w6 o1 o2 o3)
      | go_in)
    rw [Nat.zero_add, List.nil_append] at o1
    have TX6 : Hid (TX w w6 d e (.int .i64 n0) (.slice a1 nl b1) (.slice (some ⟨g, o, none⟩) nw b2) (.slice a3 nn b3) (.int .i64 ps) (.int .i64 pd) (.int .i64 pq) (.string px)) := TX4.out.grow o2 fun j hj => by cases hj
    have OW6 : Hid (OwnK 33 4 w6 m1 v6 a (pkcs A)) := o1
    have HR6 : Hid (∀ j, v6.ownBlock = some j → e < j) := show _ from fun j hj => Nat.lt_of_lt_of_le em1 (OwnK.lt OW6.out hj).1
    have hb6 : m1 ≤ w6.heap.size := Nat.le_trans hb1 o2.size
    have rd6 := RW.out.below TX6.out.bl
    rw [HAB.out, ← List.singleton_append, ← List.append_assoc] at rd6
    have rdB0 := rd_right rd6
    rw [List.length_append, List.length_singleton, HA.out] at rdB0
    have RDB : Hid (Rd w6 (some ⟨g, o + (a + 1) * 4, none⟩) (pkcs Bq)) := rdB0
    have y2 := TX6.out.D.cell 2
    simp only [List.getElem?_toArray, List.getElem?_cons_zero, List.getElem?_cons_succ] at y2
    clear rd6 rdB0 o1 o2 o3 rdA hlA oA hzm nn1 hb1 TX4
    go_cut [] from 34 to 41 (fun wc => ∃ w7 a7 k7 c7, OwnK 33 4 w7 m1 (.slice a7 k7 c7) k7 (pkcs A ++ pkcs Bq) ∧ k7 + 1 = nw ∧ w6.grownBy w7 v6.ownBlock ∧ w7.setCell ⟨d, 2, none⟩ (.slice a7 k7 c7) = wc)
    case first =>
      have hlB : (pkcs Bq).length = (nw - (a + 1)) * 4 := by
        have := HBq.out
        rw [pkcs_len]
        congr 1
        omega
      have oB := pkcs_one Bq
      have hzm : a + (nw - (a + 1)) ≤ 1000000 := by omega
      have OA1 := OW6.out
      rcases Nat.lt_or_ge (a + 1) b2 with hc | hc
      · have rdB := RDB.out
        have hcz : ¬ b2 = a + 1 := by omega
        have nnB : (some ⟨g, o + (a + 1) * 4, none⟩ : Option Addr) = none → nw - (a + 1) = 0 ∧ b2 - (a + 1) = 0 := fun h => by cases h
        have hk7 : a + (nw - (a + 1)) + 1 = nw := by omega
        have HK7 : Hid (a + (nw - (a + 1)) + 1 = nw) := hk7
        clear HRB RL RW RN Z1 HAB HA HBq CE hk7
        go_wp2_with (first
      | (at_builtin; refine wpList_src_at rfl _ _ 26 33 i0 (.agg #[.int .i64 0, .int .i64 0, .int .i64 0, .string ⟨#[]⟩]) 4 40 rfl Try.underlying26 ki hz0 hz1 hz2 rfl (by decide) (by decide) m1 _ v6 a (pkcs A) rfl OA1 (some ⟨g, o + (a + 1) * 4, none⟩) (nw - (a + 1)) (b2 - (a + 1)) rfl nnB (pkcs Bq) hlB rdB oB hzm hb6 ?_; intro v7 w7 o1 o2 o3; obtain ⟨a7, c7, e7, q1, q2, q3⟩ := OwnK.rd o1 (by decide); subst e7; have T7 := TX6.out.grow o2 HR6.out; have y2 := T7.D.cell 2; have f2 := T7.D.free 2; simp only [List.getElem?_toArray, List.getElem?_cons_zero, List.getElem?_cons_succ] at y2)
      | go_in)
        go_meet
        exact ⟨w7, a7, _, c7, o1, HK7.out, o2, rfl⟩
      · obtain rfl : b2 = a + 1 := by omega
        obtain rfl : nw = a + 1 := by omega
        obtain rfl : Bq = [] := List.eq_nil_of_length_eq_zero (by have := HBq.out; omega)
        have rdB := rd_none w6 (some ⟨g, o, none⟩)
        have nnB : (some ⟨g, o, none⟩ : Option Addr) = none → 0 = 0 ∧ 0 = 0 := fun h => by cases h
        rw [Nat.sub_self] at hlB hzm
        clear HRB RL RW RN Z1 HAB HA HBq CE
        go_wp2_with (first
      | (at_builtin; refine wpList_src_at rfl _ _ 26 33 i0 (.agg #[.int .i64 0, .int .i64 0, .int .i64 0, .string ⟨#[]⟩]) 4 40 rfl Try.underlying26 ki hz0 hz1 hz2 rfl (by decide) (by decide) m1 _ v6 a (pkcs A) rfl OA1 (some ⟨g, o, none⟩) 0 0 rfl nnB (pkcs []) hlB rdB oB hzm hb6 ?_; intro v7 w7 o1 o2 o3; rw [Nat.add_zero] at o1; obtain ⟨a7, c7, e7, q1, q2, q3⟩ := OwnK.rd o1 (by decide); subst e7; have T7 := TX6.out.grow o2 HR6.out; have y2 := T7.D.cell 2; have f2 := T7.D.free 2; simp only [List.getElem?_toArray, List.getElem?_cons_zero, List.getElem?_cons_succ] at y2)
      | go_in)
        go_meet
        exact ⟨w7, a7, _, c7, o1, rfl, o2, rfl⟩
    case rest =>
    obtain ⟨w7, a7, k7, c7, o1, hk7, o2, rfl⟩ := hcut
    have T7 := TX6.out.grow o2 HR6.out
    have dm1 : d < m1 := by have := T7.he; omega
    have o1' : OwnK 33 4 (w7.setCell ⟨d, 2, none⟩ (.slice a7 k7 c7)) m1 (.slice a7 k7 c7) k7 (pkcs A ++ pkcs Bq) := World.ownsRow.kept o1 (grown_set _ _ _ _) (Or.inr fun h => by have := (OwnK.lt o1 h).1; omega)
    have TX8 : Hid (TX w (w7.setCell ⟨d, 2, none⟩ (.slice a7 k7 c7)) d e (.int .i64 n0) (.slice a1 nl b1) (.slice a7 k7 c7) (.slice a3 nn b3) (.int .i64 ps) (.int .i64 pd) (.int .i64 pq) (.string px)) := T7.set2 _
    have FR8 : Hid (FR (w7.setCell ⟨d, 2, none⟩ (.slice a7 k7 c7)) e (w7.setCell ⟨d, 2, none⟩ (.slice a7 k7 c7)).heap.size (.slice a7 k7 c7) k7 (pkcs A ++ pkcs Bq)) := FR.own o1' (by decide) em1
    have HK7 : Hid (k7 + 1 = nw) := hk7
    clear T7 o1 o1' o2 hk7 OW6 HR6 RDB y2 hb6 TX6
    generalize w7.setCell ⟨d, 2, none⟩ (.slice a7 k7 c7) = w8 at *
    obtain ⟨m2, hm2⟩ : ∃ m2, w8.heap.size = m2 := ⟨_, rfl⟩
    rw [hm2] at FR8
    have em2 : e < m2 := by rw [← hm2]; exact TX8.out.K.lt
    have hb2 : m2 ≤ w8.heap.size := Nat.le_of_eq hm2.symm
    have rdL := RL.out.below TX8.out.bl
    have hlL : (pkcs S.L).length = nl * 4 := by rw [pkcs_len, HNL.out]
    have oL := pkcs_one S.L
    have hzl : 0 + nl ≤ 1000000 := by omega
    have z1 := Z1.out
    have y1 := TX8.out.D.cell 1
    simp only [List.getElem?_toArray, List.getElem?_cons_zero, List.getElem?_cons_succ] at y1
    clear hm2
    go_upto_region 10 with (first
      | (at_builtin; refine wpList_src_at rfl _ _ 26 33 i0 (.agg #[.int .i64 0, .int .i64 0, .int .i64 0, .string ⟨#[]⟩]) 4 40 rfl Try.underlying26 ki hz0 hz1 hz2 rfl (by decide) (by decide) m2 _ (.slice none 0 0) 0 [] rfl (OwnK.nil _ _ _ _) a1 nl b1 rfl z1 (pkcs S.L) hlL rdL oL hzl hb2 ?_; intro v9 w9 o1 o2 o3)
      | go_in)
    rw [Nat.zero_add, List.nil_append] at o1
    have T9 := TX8.out.grow o2 (fun j hj => by cases hj)
    have F9 := FR8.out.grow o2 (fun j hj => by cases hj)
    have BA : Below w9.heap.size w9 (w9.alloc (.cells #[.int .i64 ps, .int .i64 pd, .int .i64 pq, .string px] 33)) := (Below.refl _ _).alloc (Nat.le_refl _) _
    have TXA : Hid (TX w (w9.alloc (.cells #[.int .i64 ps, .int .i64 pd, .int .i64 pq, .string px] 33)) d e (.int .i64 n0) (.slice a1 nl b1) (.slice a7 k7 c7) (.slice a3 nn b3) (.int .i64 ps) (.int .i64 pd) (.int .i64 pq) (.string px)) := T9.next BA
    have FRA : Hid (FR (w9.alloc (.cells #[.int .i64 ps, .int .i64 pd, .int .i64 pq, .string px] 33)) e m2 (.slice a7 k7 c7) k7 (pkcs A ++ pkcs Bq)) := F9.next BA
    have OWA : OwnK 33 4 (w9.alloc (.cells #[.int .i64 ps, .int .i64 pd, .int .i64 pq, .string px] 33)) m2 v9 nl (pkcs S.L) := o1.below BA
    have BN : Bk (w9.alloc (.cells #[.int .i64 ps, .int .i64 pd, .int .i64 pq, .string px] 33)) w9.heap.size [.int .i64 ps, .int .i64 pd, .int .i64 pq, .string px].toArray 33 := Bk.new w9 _ _
    have HRA : Hid (∀ j, v9.ownBlock = some j → m2 ≤ j) := show _ from fun j hj => (OwnK.lt OWA hj).1
    have ON : ∀ u ∈ [Value.int .i64 ps, .int .i64 pd, .int .i64 pq, .string px], u.oneCell' = true := fun u hu => by simp at hu; rcases hu with rfl | rfl | rfl | rfl <;> rfl
    have hn9 : nl ≤ 1000000 := by omega
    have hb9 : m2 ≤ (w9.alloc (.cells #[.int .i64 ps, .int .i64 pd, .int .i64 pq, .string px] 33)).heap.size := Nat.le_trans hb2 (Nat.le_trans o2.size BA.size)
    have p0 := T9.K.cell 0
    have p1 := T9.K.cell 1
    have p2 := T9.K.cell 2
    have p3 := T9.K.cell 3
    simp only [List.getElem?_toArray, List.getElem?_cons_zero, List.getElem?_cons_succ] at p0 p1 p2 p3
    clear rdL hlL oL hzl z1 y1 o1 o2 o3 hb2 TX8 FR8 T9 F9 BA
    go_upto_region 11 with (first
      | (at_builtin; refine wpList_new_at rfl _ _ 26 33 i0 (.agg #[.int .i64 0, .int .i64 0, .int .i64 0, .string ⟨#[]⟩]) 4 40 rfl Try.underlying26 ki hz0 hz1 hz2 rfl (by decide) (by decide) m2 _ v9 _ (pkcs S.L) [.int .i64 ps, .int .i64 pd, .int .i64 pq, .string px] _ rfl OWA rfl _ BN rfl ON hn9 hb9 ?_; intro v10 w10 o1 o2 o3; obtain ⟨a10, c10, e10, q1, q2, q3⟩ := OwnK.rd o1 (by decide); subst e10; have T10 := TXA.out.grow o2 (fun j hj => Nat.lt_of_lt_of_le em2 (HRA.out j hj)); have y1 := T10.D.cell 1; have f1 := T10.D.free 1; simp only [List.getElem?_toArray, List.getElem?_cons_zero, List.getElem?_cons_succ] at y1)
      | go_in)
    have dm2 : d < m2 := by have := T10.he; omega
    have o1' : OwnK 33 4 (w10.setCell ⟨d, 1, none⟩ (.slice a10 (nl + 1) c10)) m2 (.slice a10 (nl + 1) c10) (nl + 1) (pkcs S.L ++ [.int .i64 ps, .int .i64 pd, .int .i64 pq, .string px]) := World.ownsRow.kept o1 (grown_set _ _ _ _) (Or.inr fun h => by have := (OwnK.lt o1 h).1; omega)
    have TX11 : Hid (TX w (w10.setCell ⟨d, 1, none⟩ (.slice a10 (nl + 1) c10)) d e (.int .i64 n0) (.slice a10 (nl + 1) c10) (.slice a7 k7 c7) (.slice a3 nn b3) (.int .i64 ps) (.int .i64 pd) (.int .i64 pq) (.string px)) := T10.set1 _
    have FW11 : Hid (FR (w10.setCell ⟨d, 1, none⟩ (.slice a10 (nl + 1) c10)) e m2 (.slice a7 k7 c7) k7 (pkcs A ++ pkcs Bq)) := (FRA.out.grow o2 fun j hj => Or.inr (HRA.out j hj)).grow (grown_set _ _ _ _) fun j hj => Or.inl (by cases hj; have := T10.he; omega)
    have FL11 : Hid (FR (w10.setCell ⟨d, 1, none⟩ (.slice a10 (nl + 1) c10)) e (w10.setCell ⟨d, 1, none⟩ (.slice a10 (nl + 1) c10)).heap.size (.slice a10 (nl + 1) c10) (nl + 1) (pkcs S.L ++ [.int .i64 ps, .int .i64 pd, .int .i64 pq, .string px])) := FR.own o1' (by decide) em2
    have hm23 : m2 ≤ (w10.setCell ⟨d, 1, none⟩ (.slice a10 (nl + 1) c10)).heap.size := Nat.le_trans hb9 (Nat.le_trans o2.size (grown_set _ _ _ _).size)
    clear T10 y1 f1 o1 o1' o2 o3 q1 q2 q3 OWA BN HRA ON hn9 hb9 p0 p1 p2 p3 TXA FRA
    generalize w10.setCell ⟨d, 1, none⟩ (.slice a10 (nl + 1) c10) = w11 at *
    obtain ⟨m3, hm3⟩ : ∃ m3, w11.heap.size = m3 := ⟨_, rfl⟩
    rw [hm3] at FL11 hm23
    have HM3 : Hid (m3 ≤ w11.heap.size) := Nat.le_of_eq hm3.symm
    have em3 : e < m3 := by rw [← hm3]; exact TX11.out.K.lt
    clear hm3
    go_wp2_with fail
    go_loopw [8, 9] (fun y i wr => ∃ k : Nat, k ≤ nn ∧ i = .int .i64 (k : Int) ∧ TX w wr d e (.int .i64 n0) (.slice a10 (nl + 1) c10) (.slice a7 k7 c7) (.slice a3 nn b3) (.int .i64 ps) (.int .i64 pd) (.int .i64 pq) (.string px) ∧ FR wr e m2 (.slice a7 k7 c7) k7 (pkcs A ++ pkcs Bq) ∧ FR wr e m3 (.slice a10 (nl + 1) c10) (nl + 1) (pkcs S.L ++ [.int .i64 ps, .int .i64 pd, .int .i64 pq, .string px]) ∧ OwnK 70 2 wr m3 y (nflt (N.take k) ps).length (prcs (nflt (N.take k) ps)) ∧ m3 ≤ wr.heap.size) (fun _ i _ => nn - (intOf i).toNat)
    case atStart => exact ⟨0, Nat.zero_le _, rfl, TX11.out, FW11.out, FL11.out, OwnK.nil _ _ _ _, HM3.out⟩
    case round =>
      clear TX11 FW11 FL11 HM3
      obtain ⟨k, hk, rfl, hT, hFW, hFL, hO, hm3⟩ := hrel
      have TXR : Hid (TX w wr d e (.int .i64 n0) (.slice a10 (nl + 1) c10) (.slice a7 k7 c7) (.slice a3 nn b3) (.int .i64 ps) (.int .i64 pd) (.int .i64 pq) (.string px)) := hT
      have FWR : Hid (FR wr e m2 (.slice a7 k7 c7) k7 (pkcs A ++ pkcs Bq)) := hFW
      have FLR : Hid (FR wr e m3 (.slice a10 (nl + 1) c10) (nl + 1) (pkcs S.L ++ [.int .i64 ps, .int .i64 pd, .int .i64 pq, .string px])) := hFL
      have OWR : Hid (OwnK 70 2 wr m3 u8 (nflt (N.take k) ps).length (prcs (nflt (N.take k) ps))) := hO
      have HM : Hid (m3 ≤ wr.heap.size) := hm3
      have y3 := hT.D.cell 3
      simp only [List.getElem?_toArray, List.getElem?_cons_zero, List.getElem?_cons_succ] at y3
      clear hT hFW hFL hO hm3
      by_cases hlt : k < nn
      · have t1 : (k : Int) < (nn : Int) := by omega
        obtain ⟨x, hx⟩ : ∃ x, N[k]? = some x := ⟨_, List.getElem?_eq_getElem (by rw [HNN.out]; exact hlt)⟩
        have HX : Hid (N[k]? = some x) := hx
        obtain ⟨g3, h3o, ha3, hg3, _, _⟩ := rd_pr RN.out hx
        subst ha3
        have kd : ∀ q : Gw wr, q.v.cell? ⟨d, 3, none⟩ = some (.slice (some ⟨g3, h3o, none⟩) nn b3) := fun q => Gw.cell q TXR.out.D.lt (TXR.out.D.cell 3)
        have ke : ∀ q : Gw wr, q.v.cell? ⟨e, 0, none⟩ = some (.int .i64 ps) := fun q => Gw.cell q TXR.out.K.lt (TXR.out.K.cell 0)
        have kx : ∀ q : Gw wr, q.v.cell? ⟨g3, h3o + k * 2, none⟩ = some (.int .i64 x.1) := fun q => by
          obtain ⟨g', o', e', _, c, _⟩ := rd_pr (RN.out.below (TXR.out.bl.trans (q.le.mono TXR.out.bl.size))) HX.out
          cases e'
          exact c
        obtain ⟨x1, x2⟩ := x
        simp only at kx
        clear hx
        by_cases hs : x1 = ps
        · have b1' : (x1 != ps) = false := by rw [hs]; simp
          have HF : Hid (nflt (N.take (k + 1)) ps = nflt (N.take k) ps) := nflt_out HX.out hs
          clear hs
          go_upto_region 15 with fail
          refine region_gw (by kernel_rfl) (by kernel_rfl) ?_
          repeat (first
            | go_big_quiet_skip
            | quiet_step (fail))
          refine wpQuiet_nil ?_
          intro u hw'
          obtain ⟨⟨u', hb⟩, e'⟩ := hw'
          obtain rfl : u = u' := e'
          have R2 : Hid ((TX w u d e (.int .i64 n0) (.slice a10 (nl + 1) c10) (.slice a7 k7 c7) (.slice (some ⟨g3, h3o, none⟩) nn b3) (.int .i64 ps) (.int .i64 pd) (.int .i64 pq) (.string px)) ∧ FR u e m2 (.slice a7 k7 c7) k7 (pkcs A ++ pkcs Bq) ∧ FR u e m3 (.slice a10 (nl + 1) c10) (nl + 1) (pkcs S.L ++ [.int .i64 ps, .int .i64 pd, .int .i64 pq, .string px]) ∧ OwnK 70 2 u m3 u8 (nflt (N.take (k + 1)) ps).length (prcs (nflt (N.take (k + 1)) ps)) ∧ m3 ≤ u.heap.size) := ⟨TXR.out.next hb, FWR.out.next hb, FLR.out.next hb, by rw [HF.out]; exact OWR.out.below hb, Nat.le_trans HM.out hb.size⟩
          clear kd ke kx hb TXR FWR FLR OWR HM y3
          go_wp2_with fail
          go_roundw
          case rel => exact ⟨k + 1, by omega, by go_num, R2.out⟩
          case measure => simp [intOf]; omega
        · have b1' : (x1 != ps) = true := by simpa using hs
          have HF : Hid (nflt (N.take (k + 1)) ps = nflt (N.take k) ps ++ [(x1, x2)]) := nflt_in HX.out hs
          clear hs
          go_upto_region 15 with fail
          refine region_gw (by kernel_rfl) (by kernel_rfl) ?_
          repeat (first
            | go_big_quiet_skip
            | quiet_step (fail))
          refine wpQuiet_nil ?_
          intro u hw'
          obtain ⟨⟨u', hb⟩, e'⟩ := hw'
          obtain rfl : u = u' := e'
          have BA : Below u.heap.size u (u.alloc (.cells #[.int .i64 x1, .int .i64 x2] 70)) := (Below.refl _ _).alloc (Nat.le_refl _) _
          have TXA : Hid (TX w (u.alloc (.cells #[.int .i64 x1, .int .i64 x2] 70)) d e (.int .i64 n0) (.slice a10 (nl + 1) c10) (.slice a7 k7 c7) (.slice (some ⟨g3, h3o, none⟩) nn b3) (.int .i64 ps) (.int .i64 pd) (.int .i64 pq) (.string px)) := (TXR.out.next hb).next BA
          have FWA : Hid (FR (u.alloc (.cells #[.int .i64 x1, .int .i64 x2] 70)) e m2 (.slice a7 k7 c7) k7 (pkcs A ++ pkcs Bq)) := (FWR.out.next hb).next BA
          have FLA : Hid (FR (u.alloc (.cells #[.int .i64 x1, .int .i64 x2] 70)) e m3 (.slice a10 (nl + 1) c10) (nl + 1) (pkcs S.L ++ [.int .i64 ps, .int .i64 pd, .int .i64 pq, .string px])) := (FLR.out.next hb).next BA
          have OWA : OwnK 70 2 (u.alloc (.cells #[.int .i64 x1, .int .i64 x2] 70)) m3 u8 (nflt (N.take k) ps).length (prcs (nflt (N.take k) ps)) := (OWR.out.below hb).below BA
          have HMA : Hid (m3 ≤ (u.alloc (.cells #[.int .i64 x1, .int .i64 x2] 70)).heap.size) := Nat.le_trans HM.out (Nat.le_trans hb.size BA.size)
          have hmA := HMA.out
          have HOA : Hid (∀ j, u8.ownBlock = some j → m3 ≤ j) := show _ from fun j hj => (OwnK.lt OWA hj).1
          have BN : Bk (u.alloc (.cells #[.int .i64 x1, .int .i64 x2] 70)) u.heap.size [Value.int .i64 x1, .int .i64 x2].toArray 70 := Bk.new u _ _
          have ON : ∀ u ∈ [Value.int .i64 x1, .int .i64 x2], u.oneCell' = true := fun u hu => by simp at hu; rcases hu with rfl | rfl <;> rfl
          have hln : (nflt (N.take k) ps).length ≤ 1000000 := by
            have := List.length_filter_le (fun y : Int × Int => !(y.1 == ps)) (N.take k)
            rw [List.length_take] at this
            show (List.filter _ _).length ≤ _
            omega
          have y3 := (TXR.out.next hb).D.cell 3
          simp only [List.getElem?_toArray, List.getElem?_cons_zero, List.getElem?_cons_succ] at y3
          obtain ⟨g', o', e', _, x0, x1'⟩ := rd_pr (RN.out.below (TXR.out.next hb).bl) HX.out
          cases e'
          simp only at x0 x1'
          clear kd ke kx hb TXR FWR FLR OWR HM BA
          go_wp2_with (first
            | (at_builtin; refine wpList_new_at rfl _ _ 27 70 i1 (.agg #[.int .i64 0, .int .i64 0]) 2 16 rfl Try.underlying27 kj hy0 hy1 hy2 rfl (by decide) (by decide) m3 _ u8 _ (prcs (nflt (N.take k) ps)) [.int .i64 x1, .int .i64 x2] _ rfl OWA rfl _ BN rfl ON hln hmA ?_; intro v12 w12 o1 o2 o3)
            | go_in)
          have R2 : Hid ((TX w w12 d e (.int .i64 n0) (.slice a10 (nl + 1) c10) (.slice a7 k7 c7) (.slice (some ⟨g3, h3o, none⟩) nn b3) (.int .i64 ps) (.int .i64 pd) (.int .i64 pq) (.string px)) ∧ FR w12 e m2 (.slice a7 k7 c7) k7 (pkcs A ++ pkcs Bq) ∧ FR w12 e m3 (.slice a10 (nl + 1) c10) (nl + 1) (pkcs S.L ++ [.int .i64 ps, .int .i64 pd, .int .i64 pq, .string px]) ∧ OwnK 70 2 w12 m3 v12 (nflt (N.take (k + 1)) ps).length (prcs (nflt (N.take (k + 1)) ps)) ∧ m3 ≤ w12.heap.size) := by
            refine ⟨TXA.out.grow o2 fun j hj => Nat.lt_of_lt_of_le em3 (HOA.out j hj), FWA.out.grow o2 fun j hj => Or.inr (Nat.le_trans hm23 (HOA.out j hj)), FLA.out.grow o2 fun j hj => Or.inr (HOA.out j hj), ?_, Nat.le_trans HMA.out o2.size⟩
            rw [HF.out, prcs_app, List.length_append]
            exact o1
          clear o1 o2 o3 TXA FWA FLA OWA HMA HOA BN ON x0 x1' y3
          go_wp2_with fail
          go_roundw
          case rel => exact ⟨k + 1, by omega, by go_num, R2.out⟩
          case measure => simp [intOf]; omega
      · have t1 : ¬ ((k : Int) < (nn : Int)) := by omega
        have hkn : N.take k = N := List.take_of_length_le (by rw [HNN.out]; omega)
        rw [hkn] at OWR
        clear hkn
        have hin := OK.out.rng _ (List.mem_of_getElem? hp.out)
        have q0 : 0 ≤ pq ∧ pq < 65536 := ⟨hin.2.2.1, hin.2.2.2⟩
        obtain ⟨Q1, hQ1⟩ : ∃ Q1, pq + 1 = Q1 := ⟨_, rfl⟩
        obtain ⟨Q, hQ⟩ : ∃ Q, (pq + 1) % 65536 = Q := ⟨_, rfl⟩
        have w1' : IntKind.i64.wrap (pq + 1) = Q1 := by rw [hQ1]; exact wrap_small (by omega) (by omega)
        have w2' : Q1.tmod 65536 = Q := by rw [← hQ, ← hQ1]; exact Int.tmod_eq_emod_of_nonneg (by omega)
        have HQ : Hid ((pq + 1) % 65536 = Q) := hQ
        obtain ⟨nk, hnk⟩ : ∃ nk, (nflt N ps).length = nk := ⟨_, rfl⟩
        have HNK : Hid ((nflt N ps).length = nk) := hnk
        have hln : nk ≤ 1000 := by
          rw [← hnk]
          have := List.length_filter_le (fun y : Int × Int => !(y.1 == ps)) N
          rw [HNN.out] at this
          show (List.filter _ _).length ≤ _
          omega
        have HLN : Hid (nk ≤ nn) := by
          have := List.length_filter_le (fun y : Int × Int => !(y.1 == ps)) N
          rw [HNN.out] at this
          rw [← hnk]
          exact this
        rw [hnk] at OWR
        have BA : Below wr.heap.size wr (wr.alloc (.cells #[.int .i64 ps, .int .i64 Q] 70)) := (Below.refl _ _).alloc (Nat.le_refl _) _
        have TXA : Hid (TX w (wr.alloc (.cells #[.int .i64 ps, .int .i64 Q] 70)) d e (.int .i64 n0) (.slice a10 (nl + 1) c10) (.slice a7 k7 c7) (.slice a3 nn b3) (.int .i64 ps) (.int .i64 pd) (.int .i64 pq) (.string px)) := TXR.out.next BA
        have FWA : Hid (FR (wr.alloc (.cells #[.int .i64 ps, .int .i64 Q] 70)) e m2 (.slice a7 k7 c7) k7 (pkcs A ++ pkcs Bq)) := FWR.out.next BA
        have FLA : Hid (FR (wr.alloc (.cells #[.int .i64 ps, .int .i64 Q] 70)) e m3 (.slice a10 (nl + 1) c10) (nl + 1) (pkcs S.L ++ [.int .i64 ps, .int .i64 pd, .int .i64 pq, .string px])) := FLR.out.next BA
        have OWA : OwnK 70 2 (wr.alloc (.cells #[.int .i64 ps, .int .i64 Q] 70)) m3 u8 nk (prcs (nflt N ps)) := OWR.out.below BA
        have hmA : m3 ≤ (wr.alloc (.cells #[.int .i64 ps, .int .i64 Q] 70)).heap.size := Nat.le_trans HM.out BA.size
        have HOA : Hid (∀ j, u8.ownBlock = some j → m3 ≤ j) := show _ from fun j hj => (OwnK.lt OWA hj).1
        have BN : Bk (wr.alloc (.cells #[.int .i64 ps, .int .i64 Q] 70)) wr.heap.size [Value.int .i64 ps, .int .i64 Q].toArray 70 := Bk.new wr _ _
        have ON : ∀ u ∈ [Value.int .i64 ps, .int .i64 Q], u.oneCell' = true := fun u hu => by simp at hu; rcases hu with rfl | rfl <;> rfl
        have hln2 : nk ≤ 1000000 := by omega
        have p0 := TXR.out.K.cell 0
        have p2 := TXR.out.K.cell 2
        simp only [List.getElem?_toArray, List.getElem?_cons_zero, List.getElem?_cons_succ] at p0 p2
        clear hin q0 hQ1 hQ hnk BA TXR FWR FLR OWR HM
        go_upto_region 18 with (first
          | (at_builtin; refine wpList_new_at rfl _ _ 27 70 i1 (.agg #[.int .i64 0, .int .i64 0]) 2 16 rfl Try.underlying27 kj hy0 hy1 hy2 rfl (by decide) (by decide) m3 _ u8 _ (prcs (nflt N ps)) [.int .i64 ps, .int .i64 Q] _ rfl OWA rfl _ BN rfl ON hln2 hmA ?_; intro v13 w13 o1 o2 o3; obtain ⟨a13, c13, e13, q1, q2, q3⟩ := OwnK.rd o1 (by decide); subst e13; have T13 := TXA.out.grow o2 (fun j hj => Nat.lt_of_lt_of_le em3 (HOA.out j hj)); have y3 := T13.D.cell 3; have f3 := T13.D.free 3; simp only [List.getElem?_toArray, List.getElem?_cons_zero, List.getElem?_cons_succ] at y3)
          | go_in)
        have dm3 : d < m3 := by have := T13.he; omega
        have o1' : OwnK 70 2 (w13.setCell ⟨d, 3, none⟩ (.slice a13 (nk + 1) c13)) m3 (.slice a13 (nk + 1) c13) (nk + 1) (prcs (nflt N ps) ++ [.int .i64 ps, .int .i64 Q]) := World.ownsRow.kept o1 (grown_set _ _ _ _) (Or.inr fun h => by have := (OwnK.lt o1 h).1; omega)
        have TX14 : Hid (TX w (w13.setCell ⟨d, 3, none⟩ (.slice a13 (nk + 1) c13)) d e (.int .i64 n0) (.slice a10 (nl + 1) c10) (.slice a7 k7 c7) (.slice a13 (nk + 1) c13) (.int .i64 ps) (.int .i64 pd) (.int .i64 pq) (.string px)) := T13.set3 _
        have de : d ≤ e := by have := T13.he; omega
        have FW14 : Hid (FR (w13.setCell ⟨d, 3, none⟩ (.slice a13 (nk + 1) c13)) e m2 (.slice a7 k7 c7) k7 (pkcs A ++ pkcs Bq)) := (FWA.out.grow o2 fun j hj => Or.inr (Nat.le_trans hm23 (HOA.out j hj))).grow (grown_set _ _ _ _) fun j hj => Or.inl (by cases hj; exact de)
        have FL14 : Hid (FR (w13.setCell ⟨d, 3, none⟩ (.slice a13 (nk + 1) c13)) e m3 (.slice a10 (nl + 1) c10) (nl + 1) (pkcs S.L ++ [.int .i64 ps, .int .i64 pd, .int .i64 pq, .string px])) := (FLA.out.grow o2 fun j hj => Or.inr (HOA.out j hj)).grow (grown_set _ _ _ _) fun j hj => Or.inl (by cases hj; exact de)
        have FN14 : Hid (FR (w13.setCell ⟨d, 3, none⟩ (.slice a13 (nk + 1) c13)) e (w13.setCell ⟨d, 3, none⟩ (.slice a13 (nk + 1) c13)).heap.size (.slice a13 (nk + 1) c13) (nk + 1) (prcs (nflt N ps) ++ [.int .i64 ps, .int .i64 Q])) := FR.own o1' (by decide) em3
        clear T13 y3 f3 o1 o1' o2 o3 q1 q2 q3 TXA FWA FLA OWA HOA BN ON hmA p0 p2 w1' w2' t1
        generalize (w13.setCell ⟨d, 3, none⟩ (.slice a13 (nk + 1) c13)) = w14 at *
        have y0 := TX14.out.D.cell 0
        have y1 := TX14.out.D.cell 1
        have y2 := TX14.out.D.cell 2
        have y3 := TX14.out.D.cell 3
        have v0 := TX14.out.R.cell 0
        have v1 := TX14.out.R.cell 1
        have v2 := TX14.out.R.cell 2
        have v3 := TX14.out.R.cell 3
        have f0 := TX14.out.R.free 0
        have f1 := TX14.out.R.free 1
        have f2 := TX14.out.R.free 2
        have f3 := TX14.out.R.free 3
        simp only [List.getElem?_toArray, List.getElem?_cons_zero, List.getElem?_cons_succ] at y0 y1 y2 y3 v0 v1 v2 v3
        have DR : Hid (Bk ((((w14.setCell ⟨d + 1, 0, none⟩ (.int .i64 n0)).setCell ⟨d + 1, 1, none⟩ (.slice a10 (nl + 1) c10)).setCell ⟨d + 1, 2, none⟩ (.slice a7 k7 c7)).setCell ⟨d + 1, 3, none⟩ (.slice a13 (nk + 1) c13)) (d + 1) #[.int .i64 n0, .slice a10 (nl + 1) c10, .slice a7 k7 c7, .slice a13 (nk + 1) c13] 29) := set_four TX14.out.R _ _ _ _
        have BR : Hid (Below w.heap.size w ((((w14.setCell ⟨d + 1, 0, none⟩ (.int .i64 n0)).setCell ⟨d + 1, 1, none⟩ (.slice a10 (nl + 1) c10)).setCell ⟨d + 1, 2, none⟩ (.slice a7 k7 c7)).setCell ⟨d + 1, 3, none⟩ (.slice a13 (nk + 1) c13))) := below_four TX14.out.bl (by have := HD.out; omega) _ _ _ _
        have GR : Hid (w14.grownBy ((((w14.setCell ⟨d + 1, 0, none⟩ (.int .i64 n0)).setCell ⟨d + 1, 1, none⟩ (.slice a10 (nl + 1) c10)).setCell ⟨d + 1, 2, none⟩ (.slice a7 k7 c7)).setCell ⟨d + 1, 3, none⟩ (.slice a13 (nk + 1) c13)) (some (d + 1))) := grown_four _ _ _ _ _ _
        clear RL RW RN Z1
        go_wp2_with fail
        generalize ((((w14.setCell ⟨d + 1, 0, none⟩ (.int .i64 n0)).setCell ⟨d + 1, 1, none⟩ (.slice a10 (nl + 1) c10)).setCell ⟨d + 1, 2, none⟩ (.slice a7 k7 c7)).setCell ⟨d + 1, 3, none⟩ (.slice a13 (nk + 1) c13)) = v9 at *
        have Y0 := DR.out.cell 0
        have Y1 := DR.out.cell 1
        have Y2 := DR.out.cell 2
        have Y3 := DR.out.cell 3
        simp only [List.getElem?_toArray, List.getElem?_cons_zero, List.getElem?_cons_succ] at Y0 Y1 Y2 Y3
        refine bodyPost_ret (v := .tuple #[.agg #[.int .i64 n0, .slice a10 (nl + 1) c10, .slice a7 k7 c7, .slice a13 (nk + 1) c13], .bool true]) (by simp [results, Try.results18, go_sem, Y0, Y1, Y2, Y3]; try rfl) rfl ?_
        have he := TX14.out.he
        have L9 := FL14.out.grow GR.out fun j hj => Or.inl (by cases hj; omega)
        have W9 := FW14.out.grow GR.out fun j hj => Or.inl (by cases hj; omega)
        have N9 := FN14.out.grow GR.out fun j hj => Or.inl (by cases hj; omega)
        have hd := HD.out
        refine ⟨_, _, _, nflt N ps ++ [(ps, Q)], by rw [CE.out.1, CE.out.2, ← HN0.out]; rfl, ?_, BR.out, ?_, ?_⟩
        · rw [CE.out.2]
          refine ⟨?_, ?_, ?_, fun x => ?_⟩
          · show RR _ _ (S.L ++ [(⟨ps, pd, pq, px⟩ : Pk)]).length (pkcs (S.L ++ [(⟨ps, pd, pq, px⟩ : Pk)]))
            rw [pkcs_app, List.length_append, HNL.out]
            exact L9.r
          · show RR _ _ (strike S.W ⟨ps, pd, pq, px⟩).length (pkcs (strike S.W ⟨ps, pd, pq, px⟩))
            rw [strike_at OK.out.ap HAB.out, pkcs_app, List.length_append, show A.length + Bq.length = k7 by have := HA.out; have := HBq.out; have := HK7.out; omega]
            exact W9.r
          · show RR _ _ (nflt N ps ++ [(ps, Q)]).length (prcs (nflt N ps ++ [(ps, Q)]))
            rw [prcs_app, List.length_append, HNK.out]
            exact N9.r
          · rw [nxL_strike]
            show _ = upd S.nx ps ((pq + 1) % 65536) x
            unfold upd
            rw [HQ.out, HRB.out.nx]
        · rintro g' (h | h | h)
          · exact Or.inr (by have := (FL14.out.b g' h).1; omega)
          · exact Or.inr (by have := (FW14.out.b g' h).1; omega)
          · exact Or.inr (by have := (FN14.out.b g' h).1; omega)
        · have := HLN.out
          have := HNK.out
          rw [List.length_append, List.length_singleton]
          omega
end Go.Proofs.Ytpmkpjnhdehnhaa

/-
  The document's inbox by value: the first one is received. (Written by gen_iri.py.)
-/
import Derived.Test.YtpmkpjnhdehnhaaIRh
import Derived.Test.YtpmkpjnhdehnhaaStage
namespace Go.Proofs.Ytpmkpjnhdehnhaa
open Go.RowKit

theorem recvS_nil {S : IS} (h : S.L = []) : recvS S = S ∧ recvV S = zpk ∧ recvE S = 8 := by
  obtain ⟨n, L, W, nx⟩ := S
  simp only at h
  subst h
  exact ⟨rfl, rfl, rfl⟩
theorem recvS_cons {S : IS} {p : Pk} {l : List Pk} (h : S.L = p :: l) : recvS S = { S with L := l } ∧ recvV S = p ∧ recvE S = 0 := by
  obtain ⟨n, L, W, nx⟩ := S
  simp only at h
  subst h
  exact ⟨rfl, rfl, by simp [recvE]⟩
set_option maxRecDepth 100000 in
set_option maxHeartbeats 4000000 in
theorem rrecv_any {w : World} {S : IS} {N : List (Int × Int)} {sl sw sn : Value} (h : RB w S N sl sw sn) :
    Calls Try.prog 20 #[bvv S.n sl sw sn] w fun e w' => ∃ sl', e = .returned (.tuple #[bvv (recvS S).n sl' sw sn, pkv (recvV S), .int .i64 (recvE S)]) ∧ RB w' (recvS S) N sl' sw sn ∧ Below w.heap.size w w' ∧ ∀ g, sl'.ownBlock = some g → sl.ownBlock = some g := by
  have HRB : Hid (RB w S N sl sw sn) := h
  obtain ⟨h1, h2, h3, hnx⟩ := h
  obtain ⟨⟨a1, b1, rfl, l1, m1, z1, r1⟩, q1⟩ := h1
  obtain ⟨⟨a2, b2, rfl, l2, m2, z2, r2⟩, q2⟩ := h2
  obtain ⟨⟨a3, b3, rfl, l3, m3, z3, r3⟩, q3⟩ := h3
  obtain ⟨n0, hn0⟩ : ∃ n0 : Int, (S.n : Int) = n0 := ⟨_, rfl⟩
  have HN0 : Hid ((S.n : Int) = n0) := hn0
  rw [hn0]
  obtain ⟨nl, hnl⟩ : ∃ nl, S.L.length = nl := ⟨_, rfl⟩
  have HNL : Hid (S.L.length = nl) := hnl
  obtain ⟨nw, hnw⟩ : ∃ nw, S.W.length = nw := ⟨_, rfl⟩
  obtain ⟨nn, hnn⟩ : ∃ nn, N.length = nn := ⟨_, rfl⟩
  rw [hnl] at HRB l1 ⊢
  rw [hnw] at HRB ⊢
  rw [hnn] at HRB ⊢
  have RL : Hid (Rd w a1 (pkcs S.L)) := r1
  have L1 : Hid (nl ≤ b1 ∧ b1 ≤ maxLen) := ⟨l1, m1⟩
  clear l1 m1 z1 r1 q1 l2 m2 z2 r2 q2 l3 m3 z3 r3 q3 hnx hn0 hnl hnw hnn
  have D0 : Hid (Bk (((w.alloc (.cells #[.int .i64 n0, .slice a1 nl b1, .slice a2 nw b2, .slice a3 nn b3] 29)).alloc (.cells #[.int .i64 0, .slice none 0 0, .slice none 0 0, .slice none 0 0] 29)).alloc (.cells #[.int .i64 0, .int .i64 0, .int .i64 0, .string ⟨#[]⟩] 33)) w.heap.size #[.int .i64 n0, .slice a1 nl b1, .slice a2 nw b2, .slice a3 nn b3] 29) := ((Bk.new w _ _).alloc _).alloc _
  have DB : Hid (Bk (((w.alloc (.cells #[.int .i64 n0, .slice a1 nl b1, .slice a2 nw b2, .slice a3 nn b3] 29)).alloc (.cells #[.int .i64 0, .slice none 0 0, .slice none 0 0, .slice none 0 0] 29)).alloc (.cells #[.int .i64 0, .int .i64 0, .int .i64 0, .string ⟨#[]⟩] 33)) (w.heap.size + 1) #[.int .i64 0, .slice none 0 0, .slice none 0 0, .slice none 0 0] 29) := by
    have := Bk.new (w.alloc (.cells #[.int .i64 n0, .slice a1 nl b1, .slice a2 nw b2, .slice a3 nn b3] 29)) #[.int .i64 0, .slice none 0 0, .slice none 0 0, .slice none 0 0] 29
    rw [show (w.alloc (.cells #[.int .i64 n0, .slice a1 nl b1, .slice a2 nw b2, .slice a3 nn b3] 29)).heap.size = w.heap.size + 1 by simp] at this
    exact this.alloc _
  have DP : Hid (Bk (((w.alloc (.cells #[.int .i64 n0, .slice a1 nl b1, .slice a2 nw b2, .slice a3 nn b3] 29)).alloc (.cells #[.int .i64 0, .slice none 0 0, .slice none 0 0, .slice none 0 0] 29)).alloc (.cells #[.int .i64 0, .int .i64 0, .int .i64 0, .string ⟨#[]⟩] 33)) (w.heap.size + 1 + 1) #[.int .i64 0, .int .i64 0, .int .i64 0, .string ⟨#[]⟩] 33) := by
    have := Bk.new ((w.alloc (.cells #[.int .i64 n0, .slice a1 nl b1, .slice a2 nw b2, .slice a3 nn b3] 29)).alloc (.cells #[.int .i64 0, .slice none 0 0, .slice none 0 0, .slice none 0 0] 29)) #[.int .i64 0, .int .i64 0, .int .i64 0, .string ⟨#[]⟩] 33
    rwa [show ((w.alloc (.cells #[.int .i64 n0, .slice a1 nl b1, .slice a2 nw b2, .slice a3 nn b3] 29)).alloc (.cells #[.int .i64 0, .slice none 0 0, .slice none 0 0, .slice none 0 0] 29)).heap.size = w.heap.size + 1 + 1 by simp] at this
  have HB : Hid (Below w.heap.size w (((w.alloc (.cells #[.int .i64 n0, .slice a1 nl b1, .slice a2 nw b2, .slice a3 nn b3] 29)).alloc (.cells #[.int .i64 0, .slice none 0 0, .slice none 0 0, .slice none 0 0] 29)).alloc (.cells #[.int .i64 0, .int .i64 0, .int .i64 0, .string ⟨#[]⟩] 33))) := (((Below.refl _ _).alloc (Nat.le_refl _) _).alloc (by simp) _).alloc (by simp; omega) _
  simp only [bvv] at *
  cases hL : S.L with
  | nil =>
    obtain ⟨e1, e2, e3⟩ := recvS_nil hL
    have CE : Hid (recvS S = S ∧ recvV S = zpk ∧ recvE S = 8) := ⟨e1, e2, e3⟩
    obtain rfl : nl = 0 := by rw [← HNL.out, hL]; rfl
    clear e1 e2 e3 hL
    go_enter Try.func20, Try.ntmps20
    go_upto_region 1 with fail
    generalize (((w.alloc (.cells #[.int .i64 n0, .slice a1 0 b1, .slice a2 nw b2, .slice a3 nn b3] 29)).alloc (.cells #[.int .i64 0, .slice none 0 0, .slice none 0 0, .slice none 0 0] 29)).alloc (.cells #[.int .i64 0, .int .i64 0, .int .i64 0, .string ⟨#[]⟩] 33)) = w3 at *
    obtain ⟨d, hd⟩ : ∃ d, w.heap.size = d := ⟨_, rfl⟩
    have HD : Hid (w.heap.size = d) := hd
    rw [hd] at D0 DB DP ⊢
    clear hd
    have y0 := D0.out.cell 0
    have y1 := D0.out.cell 1
    have y2 := D0.out.cell 2
    have y3 := D0.out.cell 3
    simp only [List.getElem?_toArray, List.getElem?_cons_zero, List.getElem?_cons_succ] at y0 y1 y2 y3
    have ka0 := DB.out.cell 0
    have ka1 := DB.out.cell 1
    have ka2 := DB.out.cell 2
    have ka3 := DB.out.cell 3
    simp only [List.getElem?_toArray, List.getElem?_cons_zero, List.getElem?_cons_succ] at ka0 ka1 ka2 ka3
    have kp0 := DP.out.cell 0
    have kp1 := DP.out.cell 1
    have kp2 := DP.out.cell 2
    have kp3 := DP.out.cell 3
    simp only [List.getElem?_toArray, List.getElem?_cons_zero, List.getElem?_cons_succ] at kp0 kp1 kp2 kp3
    have fa0 := DB.out.free 0
    have fa1 := DB.out.free 1
    have fa2 := DB.out.free 2
    have fa3 := DB.out.free 3
    have fp0 := DP.out.free 0
    have fp1 := DP.out.free 1
    have fp2 := DP.out.free 2
    have fp3 := DP.out.free 3
    have DR : Hid (Bk ((((((((w3.setCell ⟨d + 1, 0, none⟩ (.int .i64 n0)).setCell ⟨d + 1, 1, none⟩ (.slice a1 0 b1)).setCell ⟨d + 1, 2, none⟩ (.slice a2 nw b2)).setCell ⟨d + 1, 3, none⟩ (.slice a3 nn b3)).setCell ⟨d + 1 + 1, 0, none⟩ (.int .i64 0)).setCell ⟨d + 1 + 1, 1, none⟩ (.int .i64 0)).setCell ⟨d + 1 + 1, 2, none⟩ (.int .i64 0)).setCell ⟨d + 1 + 1, 3, none⟩ (.string ⟨#[]⟩)) (d + 1) #[.int .i64 n0, .slice a1 0 b1, .slice a2 nw b2, .slice a3 nn b3] 29) := (set_four DB.out _ _ _ _).kept (grown_four _ (d + 1 + 1) _ _ _ _) (by simp)
    have DQ : Hid (Bk ((((((((w3.setCell ⟨d + 1, 0, none⟩ (.int .i64 n0)).setCell ⟨d + 1, 1, none⟩ (.slice a1 0 b1)).setCell ⟨d + 1, 2, none⟩ (.slice a2 nw b2)).setCell ⟨d + 1, 3, none⟩ (.slice a3 nn b3)).setCell ⟨d + 1 + 1, 0, none⟩ (.int .i64 0)).setCell ⟨d + 1 + 1, 1, none⟩ (.int .i64 0)).setCell ⟨d + 1 + 1, 2, none⟩ (.int .i64 0)).setCell ⟨d + 1 + 1, 3, none⟩ (.string ⟨#[]⟩)) (d + 1 + 1) #[.int .i64 0, .int .i64 0, .int .i64 0, .string ⟨#[]⟩] 33) := set_four (DP.out.kept (grown_four _ (d + 1) _ _ _ _) (by simp)) _ _ _ _
    have BR : Hid (Below w.heap.size w ((((((((w3.setCell ⟨d + 1, 0, none⟩ (.int .i64 n0)).setCell ⟨d + 1, 1, none⟩ (.slice a1 0 b1)).setCell ⟨d + 1, 2, none⟩ (.slice a2 nw b2)).setCell ⟨d + 1, 3, none⟩ (.slice a3 nn b3)).setCell ⟨d + 1 + 1, 0, none⟩ (.int .i64 0)).setCell ⟨d + 1 + 1, 1, none⟩ (.int .i64 0)).setCell ⟨d + 1 + 1, 2, none⟩ (.int .i64 0)).setCell ⟨d + 1 + 1, 3, none⟩ (.string ⟨#[]⟩))) := below_four (below_four HB.out (by have := HD.out; omega) _ _ _ _) (by have := HD.out; omega) _ _ _ _
    clear D0 DB DP HB
    go_wp2_with fail
    generalize ((((((((w3.setCell ⟨d + 1, 0, none⟩ (.int .i64 n0)).setCell ⟨d + 1, 1, none⟩ (.slice a1 0 b1)).setCell ⟨d + 1, 2, none⟩ (.slice a2 nw b2)).setCell ⟨d + 1, 3, none⟩ (.slice a3 nn b3)).setCell ⟨d + 1 + 1, 0, none⟩ (.int .i64 0)).setCell ⟨d + 1 + 1, 1, none⟩ (.int .i64 0)).setCell ⟨d + 1 + 1, 2, none⟩ (.int .i64 0)).setCell ⟨d + 1 + 1, 3, none⟩ (.string ⟨#[]⟩)) = v9 at *
    have Y0 := DR.out.cell 0
    have Y1 := DR.out.cell 1
    have Y2 := DR.out.cell 2
    have Y3 := DR.out.cell 3
    simp only [List.getElem?_toArray, List.getElem?_cons_zero, List.getElem?_cons_succ] at Y0 Y1 Y2 Y3
    have X0 := DQ.out.cell 0
    have X1 := DQ.out.cell 1
    have X2 := DQ.out.cell 2
    have X3 := DQ.out.cell 3
    simp only [List.getElem?_toArray, List.getElem?_cons_zero, List.getElem?_cons_succ] at X0 X1 X2 X3
    refine bodyPost_ret (v := .tuple #[.agg #[.int .i64 n0, .slice a1 0 b1, .slice a2 nw b2, .slice a3 nn b3], .agg #[.int .i64 0, .int .i64 0, .int .i64 0, .string ⟨#[]⟩], .int .i64 8]) (by simp [results, Try.results20, go_sem, Y0, Y1, Y2, Y3, X0, X1, X2, X3]; try rfl) rfl ?_
    refine ⟨_, by rw [CE.out.1, CE.out.2.1, CE.out.2.2, HN0.out], by rw [CE.out.1]; exact HRB.out.next BR.out, BR.out, fun g' hg' => hg'⟩
  | cons p l =>
    obtain ⟨e1, e2, e3⟩ := recvS_cons hL
    have CE : Hid (recvS S = { S with L := l } ∧ recvV S = p ∧ recvE S = 0) := ⟨e1, e2, e3⟩
    have hnl : nl = l.length + 1 := by rw [← HNL.out, hL]; rfl
    have HL : Hid (nl = l.length + 1) := hnl
    obtain ⟨g, o, ha, hg, c0, c1, c2, c3⟩ := rd_pk RL.out (k := 0) (p := p) (by rw [hL]; rfl)
    subst ha
    rw [Nat.zero_mul, Nat.add_zero] at c0 c1 c2 c3
    have rl1 : Rd w (some ⟨g, o + 1 * 4, none⟩) (pkcs l) := by
      have := RL.out
      rw [hL] at this
      exact rd_right (A := [p]) this
    have RL1 : Hid (Rd w (some ⟨g, o + 1 * 4, none⟩) (pkcs l)) := rl1
    have HL0 : Hid (b1 = 1 → l = []) := show b1 = 1 → l = [] from fun e => List.eq_nil_of_length_eq_zero (by have := L1.out.1; omega)
    have x0 := (HB.out.cell (p := ⟨g, o, none⟩) hg).trans c0
    have x1 := (HB.out.cell (p := ⟨g, o + 1, none⟩) hg).trans c1
    have x2 := (HB.out.cell (p := ⟨g, o + 2, none⟩) hg).trans c2
    have x3 := (HB.out.cell (p := ⟨g, o + 3, none⟩) hg).trans c3
    clear e1 e2 e3 rl1 c0 c1 c2 c3 hnl hL hg RL
    have n1 : (0 : Int) < (nl : Int) := by have := HL.out; omega
    have n2 : ((nl : Int) == 0) = false := by have := HL.out; simp; omega
    obtain ⟨ps, pd, pq, px⟩ := p
    simp only at x0 x1 x2 x3
    go_enter Try.func20, Try.ntmps20
    go_upto_region 1 with fail
    generalize (((w.alloc (.cells #[.int .i64 n0, .slice (some ⟨g, o, none⟩) nl b1, .slice a2 nw b2, .slice a3 nn b3] 29)).alloc (.cells #[.int .i64 0, .slice none 0 0, .slice none 0 0, .slice none 0 0] 29)).alloc (.cells #[.int .i64 0, .int .i64 0, .int .i64 0, .string ⟨#[]⟩] 33)) = w3 at *
    obtain ⟨d, hd⟩ : ∃ d, w.heap.size = d := ⟨_, rfl⟩
    have HD : Hid (w.heap.size = d) := hd
    rw [hd] at D0 DB DP ⊢
    clear hd
    have y0 := D0.out.cell 0
    have y1 := D0.out.cell 1
    have y2 := D0.out.cell 2
    have y3 := D0.out.cell 3
    simp only [List.getElem?_toArray, List.getElem?_cons_zero, List.getElem?_cons_succ] at y0 y1 y2 y3
    go_upto_region 4 with fail
    have A4 : Below w3.heap.size w3 (w3.alloc (.cells #[.int .i64 ps, .int .i64 pd, .int .i64 pq, .string px] 33)) := (Below.refl _ _).alloc (Nat.le_refl _) _
    have D4 : Hid (Bk (w3.alloc (.cells #[.int .i64 ps, .int .i64 pd, .int .i64 pq, .string px] 33)) d #[.int .i64 n0, .slice (some ⟨g, o, none⟩) nl b1, .slice a2 nw b2, .slice a3 nn b3] 29) := D0.out.next A4
    have DB4 : Hid (Bk (w3.alloc (.cells #[.int .i64 ps, .int .i64 pd, .int .i64 pq, .string px] 33)) (d + 1) #[.int .i64 0, .slice none 0 0, .slice none 0 0, .slice none 0 0] 29) := DB.out.next A4
    have DP4 : Hid (Bk (w3.alloc (.cells #[.int .i64 ps, .int .i64 pd, .int .i64 pq, .string px] 33)) (d + 1 + 1) #[.int .i64 0, .int .i64 0, .int .i64 0, .string ⟨#[]⟩] 33) := DP.out.next A4
    have PK4 : Hid (Bk (w3.alloc (.cells #[.int .i64 ps, .int .i64 pd, .int .i64 pq, .string px] 33)) w3.heap.size #[.int .i64 ps, .int .i64 pd, .int .i64 pq, .string px] 33) := Bk.new w3 _ _
    have HB4 : Hid (Below w.heap.size w (w3.alloc (.cells #[.int .i64 ps, .int .i64 pd, .int .i64 pq, .string px] 33))) := HB.out.alloc HB.out.size _
    have HE : Hid (d + 1 + 1 < w3.heap.size) := DP.out.lt
    clear D0 DB DP HB A4 x0 x1 x2 x3 y0 y1 y2 y3 n2
    generalize (w3.alloc (.cells #[.int .i64 ps, .int .i64 pd, .int .i64 pq, .string px] 33)) = v4 at *
    generalize w3.heap.size = e at *
    have y1 := D4.out.cell 1
    have f1 := D4.out.free 1
    simp only [List.getElem?_toArray, List.getElem?_cons_zero, List.getElem?_cons_succ] at y1
    have n3 : (1 : Int) ≤ (nl : Int) := by omega
    go_cut [] from 16 to 19 (fun wc => ∃ a9, (a9 = some ⟨g, o, none⟩ ∨ a9 = some ⟨g, o + 1 * 4, none⟩) ∧ Rd w a9 (pkcs l) ∧ v4.setCell ⟨d, 1, none⟩ (.slice a9 (nl - 1) (b1 - 1)) = wc)
    case first =>
      by_cases hb : b1 = 1
      · have e1 := HL0.out hb
        have e2 : nl = 1 := by
          have := HL.out
          rw [e1] at this
          exact this
        subst hb
        subst e2
        clear D4 DB4 DP4 PK4 HB4 HE HRB RL1 HL0 HNL L1 HL
        go_wp2_with fail
        go_meet
        exact ⟨some ⟨g, o, none⟩, Or.inl rfl, by rw [e1]; exact rd_none _ _, rfl⟩
      · have R1 := RL1.out
        clear D4 DB4 DP4 PK4 HB4 HE HRB RL1 HL0 HNL L1 HL
        go_wp2_with fail
        go_meet
        exact ⟨some ⟨g, o + 1 * 4, none⟩, Or.inr rfl, R1, rfl⟩
    case rest =>
    obtain ⟨a9, ha9, hr9, rfl⟩ := hcut
    have D5 : Hid (Bk (v4.setCell ⟨d, 1, none⟩ (.slice a9 (nl - 1) (b1 - 1))) d #[.int .i64 n0, .slice a9 (nl - 1) (b1 - 1), .slice a2 nw b2, .slice a3 nn b3] 29) := D4.out.set 1 _
    have DB5 : Hid (Bk (v4.setCell ⟨d, 1, none⟩ (.slice a9 (nl - 1) (b1 - 1))) (d + 1) #[.int .i64 0, .slice none 0 0, .slice none 0 0, .slice none 0 0] 29) := DB4.out.far (by omega)
    have DP5 : Hid (Bk (v4.setCell ⟨d, 1, none⟩ (.slice a9 (nl - 1) (b1 - 1))) (d + 1 + 1) #[.int .i64 0, .int .i64 0, .int .i64 0, .string ⟨#[]⟩] 33) := DP4.out.far (by omega)
    have PK5 : Hid (Bk (v4.setCell ⟨d, 1, none⟩ (.slice a9 (nl - 1) (b1 - 1))) e #[.int .i64 ps, .int .i64 pd, .int .i64 pq, .string px] 33) := PK4.out.far (by have := HE.out; omega)
    have HB5 : Hid (Below w.heap.size w (v4.setCell ⟨d, 1, none⟩ (.slice a9 (nl - 1) (b1 - 1)))) := HB4.out.setCell (by show w.heap.size ≤ d; rw [HD.out]; exact Nat.le_refl _) _
    have R9 : Hid (Rd w a9 (pkcs l)) := hr9
    have A9 : Hid (a9 = some ⟨g, o, none⟩ ∨ a9 = some ⟨g, o + 1 * 4, none⟩) := ha9
    clear D4 DB4 DP4 PK4 HB4 y1 f1 hr9 ha9 RL1
    generalize v4.setCell ⟨d, 1, none⟩ (.slice a9 (nl - 1) (b1 - 1)) = v5 at *
    have D : Hid (Bk v5.drew d #[.int .i64 n0, .slice a9 (nl - 1) (b1 - 1), .slice a2 nw b2, .slice a3 nn b3] 29) := D5.out.drew
    have DB : Hid (Bk v5.drew (d + 1) #[.int .i64 0, .slice none 0 0, .slice none 0 0, .slice none 0 0] 29) := DB5.out.drew
    have DP : Hid (Bk v5.drew (d + 1 + 1) #[.int .i64 0, .int .i64 0, .int .i64 0, .string ⟨#[]⟩] 33) := DP5.out.drew
    have PKD : Hid (Bk v5.drew e #[.int .i64 ps, .int .i64 pd, .int .i64 pq, .string px] 33) := PK5.out.drew
    have HB : Hid (Below w.heap.size w v5.drew) := HB5.out.drew
    have T0 : v5.drew.cell? ⟨d, 0, none⟩ = some (.int .i64 n0) ∧ v5.drew.cell? ⟨d, 1, none⟩ = some (.slice a9 (nl - 1) (b1 - 1)) ∧ v5.drew.cell? ⟨d, 2, none⟩ = some (.slice a2 nw b2) ∧ v5.drew.cell? ⟨d, 3, none⟩ = some (.slice a3 nn b3) ∧ v5.drew.cell? ⟨e, 0, none⟩ = some (.int .i64 ps) ∧ v5.drew.cell? ⟨e, 1, none⟩ = some (.int .i64 pd) ∧ v5.drew.cell? ⟨e, 2, none⟩ = some (.int .i64 pq) ∧ v5.drew.cell? ⟨e, 3, none⟩ = some (.string px) := ⟨D.out.cell 0, D.out.cell 1, D.out.cell 2, D.out.cell 3, PKD.out.cell 0, PKD.out.cell 1, PKD.out.cell 2, PKD.out.cell 3⟩
    have T1 : ((((v5.drew.setCell ⟨d + 1, 0, none⟩ (.int .i64 n0)).setCell ⟨d + 1, 1, none⟩ (.slice a9 (nl - 1) (b1 - 1))).setCell ⟨d + 1, 2, none⟩ (.slice a2 nw b2)).setCell ⟨d + 1, 3, none⟩ (.slice a3 nn b3)).cell? ⟨d, 0, none⟩ = some (.int .i64 n0) ∧ ((((v5.drew.setCell ⟨d + 1, 0, none⟩ (.int .i64 n0)).setCell ⟨d + 1, 1, none⟩ (.slice a9 (nl - 1) (b1 - 1))).setCell ⟨d + 1, 2, none⟩ (.slice a2 nw b2)).setCell ⟨d + 1, 3, none⟩ (.slice a3 nn b3)).cell? ⟨d, 1, none⟩ = some (.slice a9 (nl - 1) (b1 - 1)) ∧ ((((v5.drew.setCell ⟨d + 1, 0, none⟩ (.int .i64 n0)).setCell ⟨d + 1, 1, none⟩ (.slice a9 (nl - 1) (b1 - 1))).setCell ⟨d + 1, 2, none⟩ (.slice a2 nw b2)).setCell ⟨d + 1, 3, none⟩ (.slice a3 nn b3)).cell? ⟨d, 2, none⟩ = some (.slice a2 nw b2) ∧ ((((v5.drew.setCell ⟨d + 1, 0, none⟩ (.int .i64 n0)).setCell ⟨d + 1, 1, none⟩ (.slice a9 (nl - 1) (b1 - 1))).setCell ⟨d + 1, 2, none⟩ (.slice a2 nw b2)).setCell ⟨d + 1, 3, none⟩ (.slice a3 nn b3)).cell? ⟨d, 3, none⟩ = some (.slice a3 nn b3) ∧ ((((v5.drew.setCell ⟨d + 1, 0, none⟩ (.int .i64 n0)).setCell ⟨d + 1, 1, none⟩ (.slice a9 (nl - 1) (b1 - 1))).setCell ⟨d + 1, 2, none⟩ (.slice a2 nw b2)).setCell ⟨d + 1, 3, none⟩ (.slice a3 nn b3)).cell? ⟨e, 0, none⟩ = some (.int .i64 ps) ∧ ((((v5.drew.setCell ⟨d + 1, 0, none⟩ (.int .i64 n0)).setCell ⟨d + 1, 1, none⟩ (.slice a9 (nl - 1) (b1 - 1))).setCell ⟨d + 1, 2, none⟩ (.slice a2 nw b2)).setCell ⟨d + 1, 3, none⟩ (.slice a3 nn b3)).cell? ⟨e, 1, none⟩ = some (.int .i64 pd) ∧ ((((v5.drew.setCell ⟨d + 1, 0, none⟩ (.int .i64 n0)).setCell ⟨d + 1, 1, none⟩ (.slice a9 (nl - 1) (b1 - 1))).setCell ⟨d + 1, 2, none⟩ (.slice a2 nw b2)).setCell ⟨d + 1, 3, none⟩ (.slice a3 nn b3)).cell? ⟨e, 2, none⟩ = some (.int .i64 pq) ∧ ((((v5.drew.setCell ⟨d + 1, 0, none⟩ (.int .i64 n0)).setCell ⟨d + 1, 1, none⟩ (.slice a9 (nl - 1) (b1 - 1))).setCell ⟨d + 1, 2, none⟩ (.slice a2 nw b2)).setCell ⟨d + 1, 3, none⟩ (.slice a3 nn b3)).cell? ⟨e, 3, none⟩ = some (.string px) := by
      have a := D.out.kept (grown_four v5.drew (d + 1) (.int .i64 n0) (.slice a9 (nl - 1) (b1 - 1)) (.slice a2 nw b2) (.slice a3 nn b3)) (by simp)
      have b := PKD.out.kept (grown_four v5.drew (d + 1) (.int .i64 n0) (.slice a9 (nl - 1) (b1 - 1)) (.slice a2 nw b2) (.slice a3 nn b3)) (by have := HE.out; simp; omega)
      exact ⟨a.cell 0, a.cell 1, a.cell 2, a.cell 3, b.cell 0, b.cell 1, b.cell 2, b.cell 3⟩
    have HE2 : ¬ e = d + 1 := by have := HE.out; omega
    clear D5 DB5 DP5 PK5 HB5
    have ka0 := DB.out.cell 0
    have ka1 := DB.out.cell 1
    have ka2 := DB.out.cell 2
    have ka3 := DB.out.cell 3
    simp only [List.getElem?_toArray, List.getElem?_cons_zero, List.getElem?_cons_succ] at ka0 ka1 ka2 ka3
    have kp0 := DP.out.cell 0
    have kp1 := DP.out.cell 1
    have kp2 := DP.out.cell 2
    have kp3 := DP.out.cell 3
    simp only [List.getElem?_toArray, List.getElem?_cons_zero, List.getElem?_cons_succ] at kp0 kp1 kp2 kp3
    have fa0 := DB.out.free 0
    have fa1 := DB.out.free 1
    have fa2 := DB.out.free 2
    have fa3 := DB.out.free 3
    have fp0 := DP.out.free 0
    have fp1 := DP.out.free 1
    have fp2 := DP.out.free 2
    have fp3 := DP.out.free 3
    have DR : Hid (Bk ((((((((v5.drew.setCell ⟨d + 1, 0, none⟩ (.int .i64 n0)).setCell ⟨d + 1, 1, none⟩ (.slice a9 (nl - 1) (b1 - 1))).setCell ⟨d + 1, 2, none⟩ (.slice a2 nw b2)).setCell ⟨d + 1, 3, none⟩ (.slice a3 nn b3)).setCell ⟨d + 1 + 1, 0, none⟩ (.int .i64 ps)).setCell ⟨d + 1 + 1, 1, none⟩ (.int .i64 pd)).setCell ⟨d + 1 + 1, 2, none⟩ (.int .i64 pq)).setCell ⟨d + 1 + 1, 3, none⟩ (.string px)) (d + 1) #[.int .i64 n0, .slice a9 (nl - 1) (b1 - 1), .slice a2 nw b2, .slice a3 nn b3] 29) := (set_four DB.out _ _ _ _).kept (grown_four _ (d + 1 + 1) _ _ _ _) (by simp)
    have DQ : Hid (Bk ((((((((v5.drew.setCell ⟨d + 1, 0, none⟩ (.int .i64 n0)).setCell ⟨d + 1, 1, none⟩ (.slice a9 (nl - 1) (b1 - 1))).setCell ⟨d + 1, 2, none⟩ (.slice a2 nw b2)).setCell ⟨d + 1, 3, none⟩ (.slice a3 nn b3)).setCell ⟨d + 1 + 1, 0, none⟩ (.int .i64 ps)).setCell ⟨d + 1 + 1, 1, none⟩ (.int .i64 pd)).setCell ⟨d + 1 + 1, 2, none⟩ (.int .i64 pq)).setCell ⟨d + 1 + 1, 3, none⟩ (.string px)) (d + 1 + 1) #[.int .i64 ps, .int .i64 pd, .int .i64 pq, .string px] 33) := set_four (DP.out.kept (grown_four _ (d + 1) _ _ _ _) (by simp)) _ _ _ _
    have BR : Hid (Below w.heap.size w ((((((((v5.drew.setCell ⟨d + 1, 0, none⟩ (.int .i64 n0)).setCell ⟨d + 1, 1, none⟩ (.slice a9 (nl - 1) (b1 - 1))).setCell ⟨d + 1, 2, none⟩ (.slice a2 nw b2)).setCell ⟨d + 1, 3, none⟩ (.slice a3 nn b3)).setCell ⟨d + 1 + 1, 0, none⟩ (.int .i64 ps)).setCell ⟨d + 1 + 1, 1, none⟩ (.int .i64 pd)).setCell ⟨d + 1 + 1, 2, none⟩ (.int .i64 pq)).setCell ⟨d + 1 + 1, 3, none⟩ (.string px))) := below_four (below_four HB.out (by have := HD.out; omega) _ _ _ _) (by have := HD.out; omega) _ _ _ _
    go_upto_region 5 with fail
    refine wp_region_G (fun V => V.cell? ⟨d, 0, none⟩ = some (.int .i64 n0) ∧ V.cell? ⟨d, 1, none⟩ = some (.slice a9 (nl - 1) (b1 - 1)) ∧ V.cell? ⟨d, 2, none⟩ = some (.slice a2 nw b2) ∧ V.cell? ⟨d, 3, none⟩ = some (.slice a3 nn b3) ∧ V.cell? ⟨e, 0, none⟩ = some (.int .i64 ps) ∧ V.cell? ⟨e, 1, none⟩ = some (.int .i64 pd) ∧ V.cell? ⟨e, 2, none⟩ = some (.int .i64 pq) ∧ V.cell? ⟨e, 3, none⟩ = some (.string px)) 3 (by kernel_rfl) ?_
    generalize v5.drew = v6 at *
    refine wpAnyG_take [2, 3] (some 20) (i := 0) (v := ?v0) rfl rfl (by kernel_rfl) (by kernel_rfl) (by kernel_rfl) (by kernel_rfl) (fun _ _ _ h => h) (Or.inl ⟨by rfl, ?y0⟩) T0 ?r0
    case y0 => (intro V hSV; obtain ⟨s0, s1, s2, s3, s4, s5, s6, s7⟩ := hSV; go_simp; try with_reducible rfl)
    try simp only [Act.put, List.setIfInBounds_toArray, List.set_cons_zero, List.set_cons_succ]
    refine wpAnyG_take [3] (some 21) (i := 1) (v := ?v1) rfl rfl (by kernel_rfl) (by kernel_rfl) (by kernel_rfl) (by kernel_rfl) (fun _ _ _ h => h) (Or.inl ⟨by rfl, ?y1⟩) T0 ?r1
    case y1 => (intro V hSV; obtain ⟨s0, s1, s2, s3, s4, s5, s6, s7⟩ := hSV; go_simp; try with_reducible rfl)
    try simp only [Act.put, List.setIfInBounds_toArray, List.set_cons_zero, List.set_cons_succ]
    refine wpAnyG_one (i := 2) (by kernel_rfl) rfl (fun K hK => ?_)
    go_simp
    refine hK.out _ _ (Or.inr T1) ?_
    clear hK K
    try simp only [Act.put, List.setIfInBounds_toArray, List.set_cons_zero, List.set_cons_succ]
    refine wpAnyG_one (i := 3) (by kernel_rfl) rfl (fun K hK => ?_)
    go_simp
    refine hK.out _ _ (Or.inl (by kernel_rfl)) ?_
    clear hK K
    try simp only [Act.put, List.setIfInBounds_toArray, List.set_cons_zero, List.set_cons_succ]
    refine wpAnyG_one (i := 4) (by kernel_rfl) rfl (fun K hK => ?_)
    go_simp
    refine hK.out _ _ (Or.inl (by kernel_rfl)) ?_
    clear hK K
    try simp only [Act.put, List.setIfInBounds_toArray, List.set_cons_zero, List.set_cons_succ]
    refine wpAnyG_done (by kernel_rfl) ?_ _
    clear T0 T1 D PKD
    go_wp2
    generalize ((((((((v6.setCell ⟨d + 1, 0, none⟩ (.int .i64 n0)).setCell ⟨d + 1, 1, none⟩ (.slice a9 (nl - 1) (b1 - 1))).setCell ⟨d + 1, 2, none⟩ (.slice a2 nw b2)).setCell ⟨d + 1, 3, none⟩ (.slice a3 nn b3)).setCell ⟨d + 1 + 1, 0, none⟩ (.int .i64 ps)).setCell ⟨d + 1 + 1, 1, none⟩ (.int .i64 pd)).setCell ⟨d + 1 + 1, 2, none⟩ (.int .i64 pq)).setCell ⟨d + 1 + 1, 3, none⟩ (.string px)) = v9 at *
    have Y0 := DR.out.cell 0
    have Y1 := DR.out.cell 1
    have Y2 := DR.out.cell 2
    have Y3 := DR.out.cell 3
    simp only [List.getElem?_toArray, List.getElem?_cons_zero, List.getElem?_cons_succ] at Y0 Y1 Y2 Y3
    have X0 := DQ.out.cell 0
    have X1 := DQ.out.cell 1
    have X2 := DQ.out.cell 2
    have X3 := DQ.out.cell 3
    simp only [List.getElem?_toArray, List.getElem?_cons_zero, List.getElem?_cons_succ] at X0 X1 X2 X3
    refine bodyPost_ret (v := .tuple #[.agg #[.int .i64 n0, .slice a9 (nl - 1) (b1 - 1), .slice a2 nw b2, .slice a3 nn b3], .agg #[.int .i64 ps, .int .i64 pd, .int .i64 pq, .string px], .int .i64 0]) (by simp [results, Try.results20, go_sem, Y0, Y1, Y2, Y3, X0, X1, X2, X3]; try rfl) rfl ?_
    have RB9 := HRB.out.next BR.out
    refine ⟨_, by rw [CE.out.1, CE.out.2.1, CE.out.2.2, HN0.out], ?_, BR.out, fun g' hg' => ?_⟩
    · rw [CE.out.1]
      refine ⟨⟨⟨a9, b1 - 1, ?_, ?_, ?_, ?_, R9.out.below BR.out⟩, fun g' hg' => ?_⟩, RB9.k, RB9.n, RB9.nx⟩
      · show Value.slice a9 (nl - 1) (b1 - 1) = .slice a9 l.length (b1 - 1)
        rw [show nl - 1 = l.length by have := HL.out; omega]
      · show l.length ≤ b1 - 1
        have := HL.out
        have := L1.out.1
        omega
      · have := L1.out.2; omega
      · intro h
        rcases A9.out with c | c
        · rw [c] at h; cases h
        · rw [c] at h; cases h
      · have := RB9.l.lt g'
        rcases A9.out with c | c
        · rw [c] at hg'; exact this hg'
        · rw [c] at hg'; exact this hg'
    · rcases A9.out with c | c
      · rw [c] at hg'; exact hg'
      · rw [c] at hg'; exact hg'
end Go.Proofs.Ytpmkpjnhdehnhaa

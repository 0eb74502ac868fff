/-
  The walk of InboxPlays. (Written by gen_iply.py.)
-/
import Derived.Test.YtpmkpjnhdehnhaaIRk
import Derived.Deep.CutBlock
namespace Go.Proofs.Ytpmkpjnhdehnhaa
open Go.RowKit

theorem comeS_len (S : IS) (p : Pk) : (comeS S p).W.length ≤ S.W.length + 1 := by
  unfold comeS
  split
  · split
    · omega
    · simp
  · omega
theorem tellS_len (S : IS) : (tellS S).W.length ≤ S.W.length := by
  rcases tell_cases S with ⟨_, ⟨_, h, _⟩ | ⟨p, _, h, _⟩⟩ | ⟨_, h, _⟩
  · rw [h]; exact Nat.le_refl _
  · rw [h]; exact List.length_filter_le _ _
  · rw [h]; exact Nat.le_refl _
theorem own_k {sl sw sn sw' : Value} {M : Nat} (n : ∀ g, sw'.ownBlock = some g → sw.ownBlock = some g ∨ M ≤ g) : ∀ g, own3 sl sw' sn g → own3 sl sw sn g ∨ M ≤ g := fun g hg => by
  rcases hg with c | c | c
  · exact Or.inl (Or.inl c)
  · exact (n g c).elim (fun h => Or.inl (Or.inr (Or.inl h))) Or.inr
  · exact Or.inl (Or.inr (Or.inr c))
theorem own_l {sl sw sn sl' : Value} {M : Nat} (n : ∀ g, sl'.ownBlock = some g → sl.ownBlock = some g) : ∀ g, own3 sl' sw sn g → own3 sl sw sn g ∨ M ≤ g := fun g hg => by
  rcases hg with c | c | c
  · exact Or.inl (Or.inl (n g c))
  · exact Or.inl (Or.inr (Or.inl c))
  · exact Or.inl (Or.inr (Or.inr c))
/-- Between two steps: no packet. -/
structure Py (w0 v : World) (b rb : Nat) (S : IS) (N : List (Int × Int)) (sl sw sn : Value) : Prop where
  ex : ∃ O, Ix w0 v b S O ∧ O rb ∧ ∀ g, own3 sl sw sn g → O g
  r : Bk v rb #[.int .i64 (S.n : Int), sl, sw, sn] 29
  m : RB v S N sl sw sn
  nr : ∀ g, own3 sl sw sn g → g ≠ rb
  h : w0.heap.size ≤ rb
section
variable {w0 v : World} {b rb pb : Nat} {S : IS} {N : List (Int × Int)} {sl sw sn : Value} {p : Pk}
theorem Py.bl (h : Py w0 v b rb S N sl sw sn) : Below w0.heap.size w0 v := by
  obtain ⟨O, hx, _⟩ := h.ex
  exact hx.bl
theorem Py.pack (h : Py w0 v b rb S N sl sw sn) (p : Pk) : Px w0 (v.alloc (.cells #[.int .i64 p.s, .int .i64 p.d, .int .i64 p.q, .string p.x] 33)) b rb v.heap.size S S N sl sw sn p := by
  obtain ⟨O, hx, h1, h2⟩ := h.ex
  have hb : Below v.heap.size v (v.alloc (.cells #[.int .i64 p.s, .int .i64 p.d, .int .i64 p.q, .string p.x] 33)) := (Below.refl _ _).alloc (Nat.le_refl _) _
  exact ⟨⟨_, hx.alloc _, Or.inl h1, Or.inr rfl, fun g hg => Or.inl (h2 g hg)⟩, h.r.next hb, Bk.new v _ _, h.m.next hb, fun g hg => ⟨h.nr g hg, by have := h.m.lt hg; omega⟩, by have := h.r.lt; omega, h.h, hx.size⟩
theorem Px.drop (h : Px w0 v b rb pb S S N sl sw sn p) : Py w0 v b rb S N sl sw sn := by
  obtain ⟨O, hx, h1, _, h3⟩ := h.ex
  exact ⟨⟨O, hx, h1, h3⟩, h.r, h.m, fun g hg => (h.nr g hg).1, h.h⟩
theorem Px.inn {T : IS} (h : Px w0 v b rb pb S T N sl sw sn p) : ∃ F, In v b S F := by
  obtain ⟨O, hx, _⟩ := h.ex
  obtain ⟨F, hI, _⟩ := hx.ex
  exact ⟨F, hI⟩
end
/-- The document's answer is laid in the box, while another packet lies by; then a call of the program's. -/
theorem Px.doc2 {w0 v v1 : World} {b rb pb qb : Nat} {S S' T T' : IS} {N N' : List (Int × Int)} {sl sw sn sl' sw' sn' : Value} {p : Pk} {qc : Array Value} {f : FuncId} {args : Array Value} {ret : Value} (h : Px w0 v b rb pb S T N sl sw sn p) (hb : Below v.heap.size v v1) (m' : RB v1 T' N' sl' sw' sn') (hn : ∀ g, own3 sl' sw' sn' g → own3 sl sw sn g ∨ v.heap.size ≤ g) (hq : Bk v1 qb qc 33) (hqv : v.heap.size ≤ qb)
    (C : ∀ V O, Ix w0 V b S O → Calls Try.prog f args V fun e w' => e = .returned ret ∧ Ix w0 w' b S' O ∧ Kp O V w') :
    Calls Try.prog f args ((((v1.setCell ⟨rb, 0, none⟩ (.int .i64 (T'.n : Int))).setCell ⟨rb, 1, none⟩ sl').setCell ⟨rb, 2, none⟩ sw').setCell ⟨rb, 3, none⟩ sn') fun e w' => e = .returned ret ∧ Px w0 w' b rb pb S' T' N' sl' sw' sn' p ∧ Bk w' qb qc 33 := by
  have D := h.doc hb m' hn
  obtain ⟨O, hx, h1, h2, h3⟩ := h.ex
  have hr := h.r.lt
  have x1 : Ix w0 v1 b S (fun g => ((g = rb ∨ g = pb) ∨ own3 sl' sw' sn' g) ∨ g = qb) := hx.move hb fun g hg => by
    rcases hg with ((c | c) | c) | c
    · rw [c]; exact ⟨Or.inl h1, Nat.lt_of_lt_of_le h.r.lt hb.size⟩
    · rw [c]; exact ⟨Or.inl h2, Nat.lt_of_lt_of_le h.k.lt hb.size⟩
    · refine ⟨?_, m'.lt c⟩
      rcases hn g c with c' | c'
      · exact Or.inl (h3 g c')
      · exact Or.inr c'
    · rw [c]; exact ⟨Or.inr hqv, hq.lt⟩
  have gf := grown_four v1 rb (.int .i64 (T'.n : Int)) sl' sw' sn'
  have hq2 := hq.kept gf fun c => by cases c; omega
  have x2 := (((x1.set (x := .int .i64 (T'.n : Int)) (j := 0) (Or.inl (Or.inl (Or.inl rfl))) h.h).set (x := sl') (j := 1) (Or.inl (Or.inl (Or.inl rfl))) h.h).set (x := sw') (j := 2) (Or.inl (Or.inl (Or.inl rfl))) h.h).set (x := sn') (j := 3) (Or.inl (Or.inl (Or.inl rfl))) h.h
  refine (C _ _ x2).mono ?_
  rintro e w' ⟨he, q1, q2⟩
  exact ⟨he, ⟨⟨_, q1, Or.inl (Or.inl (Or.inl rfl)), Or.inl (Or.inl (Or.inr rfl)), fun g hg => Or.inl (Or.inr hg)⟩, D.r.kp q2 (Or.inl (Or.inl (Or.inl rfl))), D.k.kp q2 (Or.inl (Or.inl (Or.inr rfl))), D.m.kp q2 fun g hg => Or.inl (Or.inr hg), D.nr, D.ne, D.h, D.hp⟩, hq2.kp q2 (Or.inr rfl)⟩
set_option maxRecDepth 100000 in
set_option maxHeartbeats 16000000 in
theorem plays_law (room : Int) (l : List IOp) (a : Option Addr) (cap : Nat) (w : World) (hr : Rd w a (iops l)) (hc1 : l.length ≤ cap) (hc2 : cap ≤ maxLen) (hc3 : a = none → cap = 0) (hq : ∀ o ∈ l, (Lit.int .i64 o.p.s).wf = true) :
    Calls Try.prog 3 #[.int .i64 room, .slice a l.length cap] w fun e w' => e = .returned (.bool true) ∧ Below w.heap.size w w' := by
  have LV := lives_any w
  have HR : Hid (Rd w a (iops l)) := hr
  have HWF : Hid (∀ o ∈ l, (Lit.int .i64 o.p.s).wf = true) := hq
  have ER := fun v => iearly_any a l.length cap v hc1 hc2 hc3
  obtain ⟨n, hn⟩ : ∃ n, min l.length 120 = n := ⟨_, rfl⟩
  rw [hn] at ER
  have hnl : n ≤ l.length := by omega
  have hn120 : n ≤ 120 := by omega
  have RNW := rnew_any room
  have CN : Hid (∀ v, Below w.heap.size w v → Calls Try.prog 11 #[.int .i64 room] v fun e v' => ∃ b, e = .returned (.pointer (some ⟨b, 0, none⟩)) ∧ Ix w v' b (newI (roomN room)) NoB) := show _ from fun v hb => by
    refine (ix_new (w0 := w) (O := NoB) hb (fun _ h => h.elim) room).mono ?_
    rintro e v' ⟨b, rfl, x, _⟩
    exact ⟨b, rfl, x⟩
  generalize roomN room = rn at *
  simp only [bvv] at RNW
  clear hr hc1 hc2 hc3 hn hq
  go_enter Try.func3, Try.ntmps3
  go_upto_region 3 with (go_at_call 10; with_reducible refine LV.mono ?_; rintro e v1 ⟨rfl, hb1⟩)
  have C1 := CN.out v1 hb1
  clear LV hb1 CN
  go_upto_region 4 with (first
    | (go_at_call 11; with_reducible refine C1.mono ?_; rintro e v2 ⟨b, rfl, X0⟩)
    | (go_at_call 12; with_reducible refine (RNW _).mono ?_; rintro e v3 ⟨rfl, hb3⟩))
  have Y0 : Hid (Py w (v3.alloc (.cells #[.int .i64 (rn : Int), .slice none 0 0, .slice none 0 0, .slice none 0 0] 29)) b v3.heap.size (newI rn) [] (.slice none 0 0) (.slice none 0 0) (.slice none 0 0)) := by
    have x3 := (X0.next hb3).1
    refine ⟨⟨_, x3.alloc _, Or.inr rfl, fun g hg => ?_⟩, Bk.new v3 _ _, ⟨RR.nil _, RR.nil _, RR.nil _, fun _ => rfl⟩, fun g hg => ?_, x3.size⟩
    · rcases hg with c | c | c <;> cases c
    · rcases hg with c | c | c <;> cases c
  clear X0 hb3 C1 RNW
  generalize v3.alloc (.cells #[.int .i64 (rn : Int), .slice none 0 0, .slice none 0 0, .slice none 0 0] 29) = v4 at *
  generalize v3.heap.size = rb at *
  go_wp2_with (go_at_call 13; with_reducible refine (ER _).mono ?_; rintro e v5 ⟨rfl, rfl⟩)
  go_loopw [7] (fun i wr => ∃ (k : Nat) (S : IS) (N : List (Int × Int)) (sl sw sn : Value), k ≤ n ∧ i = .int .i64 (k : Int) ∧ Py w wr b rb S N sl sw sn ∧ S.W.length ≤ k ∧ N.length ≤ k) (fun i _ => n - (intOf i).toNat)
  case atStart => exact ⟨0, newI rn, [], _, _, _, Nat.zero_le _, rfl, Y0.out, Nat.le_refl _, Nat.le_refl _⟩
  case round =>
    clear Y0 ER
    obtain ⟨k, S, N, sl, sw, sn, hk, rfl, Y, hWk, hNk⟩ := hrel
    by_cases hlt : k < n
    · obtain ⟨x, hx⟩ : ∃ x, l[k]? = some x := ⟨_, List.getElem?_eq_getElem (by omega)⟩
      have wfx := HWF.out x (List.mem_of_getElem? hx)
      have CE : Hid (∀ v, Below w.heap.size w v → ∃ g o, a = some ⟨g, o, none⟩ ∧ g < v.heap.size ∧ v.cell? ⟨g, o + k * 5, none⟩ = some (.int .i64 x.kd) ∧ v.cell? ⟨g, o + k * 5 + 1, none⟩ = some (.int .i64 x.p.s) ∧ v.cell? ⟨g, o + k * 5 + 2, none⟩ = some (.int .i64 x.p.d) ∧ v.cell? ⟨g, o + k * 5 + 3, none⟩ = some (.int .i64 x.p.q) ∧ v.cell? ⟨g, o + k * 5 + 4, none⟩ = some (.string x.p.x)) := show _ from fun v hv => rd_iop (HR.out.below hv) hx
      have KC := fun v => ikind_any x v
      have hk4 := x.k_lt
      obtain ⟨kd, hkd⟩ : ∃ kd, x.k = kd := ⟨_, rfl⟩
      rw [hkd] at KC hk4
      obtain ⟨ga, oa, ha, hga, e0, e1, e2, e3, e4⟩ := CE.out wr Y.bl
      subst ha
      have hok : IOk S := by
        obtain ⟨O, hx, _⟩ := Y.ex
        exact hx.ok
      have HOK : Hid (IOk S) := hok
      have HWK : Hid (S.W.length ≤ k) := hWk
      have HNK : Hid (N.length ≤ k) := hNk
      obtain ⟨⟨a1, b1, e5, _⟩, _⟩ := Y.m.l
      subst e5
      obtain ⟨⟨a2, b2, e5, _⟩, _⟩ := Y.m.k
      subst e5
      obtain ⟨⟨a3, b3, e5, _⟩, _⟩ := Y.m.n
      subst e5
      have HY : Hid (Py w wr b rb S N (.slice a1 S.L.length b1) (.slice a2 S.W.length b2) (.slice a3 N.length b3)) := Y
      have t1 : (k : Int) < (n : Int) := by omega
      clear hok hWk hNk hx hkd Y HR HWF hlt
      obtain ⟨ok0, ps, pd, pq, px⟩ := x
      simp only [iov] at *
      go_upto_region 10 with fail
      have PX4 : Hid (Px w (wr.alloc (.cells #[.int .i64 ps, .int .i64 pd, .int .i64 pq, .string px] 33)) b rb wr.heap.size S S N (.slice a1 S.L.length b1) (.slice a2 S.W.length b2) (.slice a3 N.length b3) ⟨ps, pd, pq, px⟩) := HY.out.pack ⟨ps, pd, pq, px⟩
      clear HY e0 e1 e2 e3 e4 hga
      generalize wr.alloc (.cells #[.int .i64 ps, .int .i64 pd, .int .i64 pq, .string px] 33) = v4 at *
      generalize wr.heap.size = d at *
      obtain ⟨ga', oa', ha', hga, e0, e1, e2, e3, e4⟩ := CE.out v4 PX4.out.bl
      cases ha'
      try simp only at e0 e1 e2 e3 e4
      go_upto_if 45 with (go_at_call 14; with_reducible refine (KC _).mono ?_; rintro e v5 ⟨rfl, hb5⟩)
      have PX5 : Hid (Px w v5 b rb d S S N (.slice a1 S.L.length b1) (.slice a2 S.W.length b2) (.slice a3 N.length b3) ⟨ps, pd, pq, px⟩) := PX4.out.next hb5
      clear PX4 hb5 e0 e1 e2 e3 e4 hga
      go_cut [] from 46 to 50 (fun wc => ∃ pq', Px w wc b rb d S S N (.slice a1 S.L.length b1) (.slice a2 S.W.length b2) (.slice a3 N.length b3) ⟨ps, pd, pq', px⟩)
      case first =>
        by_cases h3 : kd = 3
        · subst h3
          have OC := rof_any (n := (S.n : Int)) PX5.out.m.l PX5.out.m.k PX5.out.m.n ps
          simp only [bvv] at OC
          have y0 := PX5.out.r.cell 0
          have y1 := PX5.out.r.cell 1
          have y2 := PX5.out.r.cell 2
          have y3 := PX5.out.r.cell 3
          simp only [List.getElem?_toArray, List.getElem?_cons_zero, List.getElem?_cons_succ] at y0 y1 y2 y3
          have p0 := PX5.out.k.cell 0
          have p1 := PX5.out.k.cell 1
          have p2 := PX5.out.k.cell 2
          have p3 := PX5.out.k.cell 3
          simp only [List.getElem?_toArray, List.getElem?_cons_zero, List.getElem?_cons_succ] at p0 p1 p2 p3
          generalize nxL N ps = q' at *
          clear CE KC
          go_wp2_with (go_at_call 15; with_reducible refine OC.mono ?_; rintro e v6 ⟨rfl, hb6⟩; have K6 := (PX5.out.next hb6).k; have p2 := K6.cell 2; have f2 := K6.free 2; simp only [List.getElem?_toArray, List.getElem?_cons_zero, List.getElem?_cons_succ] at p2)
          go_meet
          exact ⟨q', (PX5.out.next hb6).seq q'⟩
        · have h3' : ¬ (kd : Int) = 3 := by omega
          have h3'' : ((kd : Int) == 3) = false := by simpa using h3'
          have PX5' := PX5.out
          clear CE KC PX5
          go_wp2_with fail
          go_meet
          exact ⟨pq, PX5'⟩
      case rest =>
      obtain ⟨pq2, hPX6⟩ := hcut
      have PX6 : Hid (Px w wc b rb d S S N (.slice a1 S.L.length b1) (.slice a2 S.W.length b2) (.slice a3 N.length b3) ⟨ps, pd, pq2, px⟩) := hPX6
      clear PX5 hPX6
      obtain ⟨ga', oa', ha', hga, e0, e1, e2, e3, e4⟩ := CE.out wc PX6.out.bl
      cases ha'
      try simp only at e0 e1 e2 e3 e4
      go_upto_block 2 with (go_at_call 14; with_reducible refine (KC _).mono ?_; rintro e v7 ⟨rfl, hb7⟩)
      have PX7 : Hid (Px w v7 b rb d S S N (.slice a1 S.L.length b1) (.slice a2 S.W.length b2) (.slice a3 N.length b3) ⟨ps, pd, pq2, px⟩) := PX6.out.next hb7
      clear PX6 hb7 e0 e1 e2 e3 e4 hga KC CE
      have OK7 := HOK.out
      have hW7 : S.W.length ≤ 1000 := by have := HWK.out; omega
      have hN7 : N.length ≤ 1000 := by have := HNK.out; omega
      have HNN7 : Hid (N.length ≤ k) := HNK.out
      go_cut [9, 10, 11, 12, 13, 14, 15, 16, 17, 18] from 56 to 104 (fun y _ _ _ _ _ _ _ _ _ wc => y = .bool true ∧ ∃ (S' : IS) (N' : List (Int × Int)) (sl sw sn : Value), Px w wc b rb d S' S' N' sl sw sn ⟨ps, pd, pq2, px⟩ ∧ S'.W.length ≤ k + 1 ∧ N'.length ≤ k + 1)
      case first =>
        have hkv : kd = 0 ∨ kd = 3 ∨ kd = 1 ∨ kd = 2 := by omega
        clear hk4
        have hWl := HWK.out
        have hNl := HNK.out
        rcases hkv with rfl | rfl | rfl | rfl
        · as_aux_lemma =>
            have RC := rcome_any PX7.out.m OK7 hW7 ⟨ps, pd, pq2, px⟩
            have LC := comeS_len S ⟨ps, pd, pq2, px⟩
            have CI : Hid (∀ (v : World) (sl sw sn : Value) (N : List (Int × Int)) (T : IS), Px w v b rb d S T N sl sw sn ⟨ps, pd, pq2, px⟩ → Calls Try.prog 17 #[.pointer (some ⟨b, 0, none⟩), .agg #[.int .i64 ps, .int .i64 pd, .int .i64 pq2, .string px]] v fun e w' => e = .returned (.int .i64 (comeE S ⟨ps, pd, pq2, px⟩)) ∧ Px w w' b rb d (comeS S ⟨ps, pd, pq2, px⟩) T N sl sw sn ⟨ps, pd, pq2, px⟩) := show _ from fun v sl sw sn N T hv => hv.step fun O hx => ix_come hx ⟨ps, pd, pq2, px⟩
            generalize comeE S ⟨ps, pd, pq2, px⟩ = ce at *
            generalize comeS S ⟨ps, pd, pq2, px⟩ = S8 at *
            have HLC : Hid (S8.W.length ≤ k + 1) := show S8.W.length ≤ k + 1 from by omega
            generalize hsl : S.L.length = nl at *
            generalize hsw : S.W.length = nw at *
            generalize hsn : N.length = nn at *
            simp only [bvv, pkv, pkc] at RC
            have y0 := PX7.out.r.cell 0
            have y1 := PX7.out.r.cell 1
            have y2 := PX7.out.r.cell 2
            have y3 := PX7.out.r.cell 3
            simp only [List.getElem?_toArray, List.getElem?_cons_zero, List.getElem?_cons_succ] at y0 y1 y2 y3
            have p0 := PX7.out.k.cell 0
            have p1 := PX7.out.k.cell 1
            have p2 := PX7.out.k.cell 2
            have p3 := PX7.out.k.cell 3
            simp only [List.getElem?_toArray, List.getElem?_cons_zero, List.getElem?_cons_succ] at p0 p1 p2 p3
            clear LC OK7 hW7 hN7
            go_upto_region 16 with (go_at_call 16; with_reducible refine RC.mono ?_; rintro e v8 ⟨sw8, rfl, m8, hb8, n8⟩; obtain ⟨⟨a8, c8, e8, _⟩, _⟩ := m8.k; subst e8)
            have PX8 : Px w (v8.alloc (.cells #[.int .i64 (S8.n : Int), .slice a1 nl b1, .slice a8 S8.W.length c8, .slice a3 nn b3] 29)) b rb d S S N (.slice a1 nl b1) (.slice a2 nw b2) (.slice a3 nn b3) ⟨ps, pd, pq2, px⟩ := PX7.out.next (hb8.alloc hb8.size _)
            have N8 := Bk.new v8 #[.int .i64 (S8.n : Int), .slice a1 nl b1, .slice a8 S8.W.length c8, .slice a3 nn b3] 29
            have PX9 := PX7.out.doc (hb8.alloc hb8.size (.cells #[.int .i64 (S8.n : Int), .slice a1 nl b1, .slice a8 S8.W.length c8, .slice a3 nn b3] 29)) (m8.next ((Below.refl _ _).alloc (Nat.le_refl _) _)) (own_k n8)
            have CI9 := CI.out _ _ _ _ _ _ PX9
            clear y0 y1 y2 y3 p0 p1 p2 p3 RC CI
            have y0 := N8.cell 0
            have y1 := N8.cell 1
            have y2 := N8.cell 2
            have y3 := N8.cell 3
            simp only [List.getElem?_toArray, List.getElem?_cons_zero, List.getElem?_cons_succ] at y0 y1 y2 y3
            have z0 := PX8.r.cell 0
            have z1 := PX8.r.cell 1
            have z2 := PX8.r.cell 2
            have z3 := PX8.r.cell 3
            simp only [List.getElem?_toArray, List.getElem?_cons_zero, List.getElem?_cons_succ] at z0 z1 z2 z3
            have zf0 := PX8.r.free 0
            have zf1 := PX8.r.free 1
            have zf2 := PX8.r.free 2
            have zf3 := PX8.r.free 3
            have HP : Hid (RB (v8.alloc (.cells #[.int .i64 (S8.n : Int), .slice a1 nl b1, .slice a8 S8.W.length c8, .slice a3 nn b3] 29)) S8 N (.slice a1 nl b1) (.slice a8 S8.W.length c8) (.slice a3 nn b3)) := m8.next ((Below.refl _ _).alloc (Nat.le_refl _) _)
            have p0 := PX9.k.cell 0
            have p1 := PX9.k.cell 1
            have p2 := PX9.k.cell 2
            have p3 := PX9.k.cell 3
            simp only [List.getElem?_toArray, List.getElem?_cons_zero, List.getElem?_cons_succ] at p0 p1 p2 p3
            clear PX9 PX8 N8 PX7 m8 hb8 n8
            go_upto_region 17 with fail
            clear y0 y1 y2 y3 z0 z1 z2 z3 zf0 zf1 zf2 zf3 HP
            generalize ((((v8.alloc (.cells #[.int .i64 (S8.n : Int), .slice a1 nl b1, .slice a8 S8.W.length c8, .slice a3 nn b3] 29)).setCell ⟨rb, 0, none⟩ (.int .i64 (S8.n : Int))).setCell ⟨rb, 1, none⟩ (.slice a1 nl b1)).setCell ⟨rb, 2, none⟩ (.slice a8 S8.W.length c8)).setCell ⟨rb, 3, none⟩ (.slice a3 nn b3) = v9 at *
            go_wp2_with (go_at_call 17; with_reducible refine CI9.mono ?_; rintro e v10 ⟨rfl, PX10⟩)
            go_meet
            exact ⟨rfl, S8, N, _, _, _, PX10, HLC.out, by have := HNN7.out; omega⟩
        · as_aux_lemma =>
            have RC := rcome_any PX7.out.m OK7 hW7 ⟨ps, pd, pq2, px⟩
            have LC := comeS_len S ⟨ps, pd, pq2, px⟩
            have CI : Hid (∀ (v : World) (sl sw sn : Value) (N : List (Int × Int)) (T : IS), Px w v b rb d S T N sl sw sn ⟨ps, pd, pq2, px⟩ → Calls Try.prog 17 #[.pointer (some ⟨b, 0, none⟩), .agg #[.int .i64 ps, .int .i64 pd, .int .i64 pq2, .string px]] v fun e w' => e = .returned (.int .i64 (comeE S ⟨ps, pd, pq2, px⟩)) ∧ Px w w' b rb d (comeS S ⟨ps, pd, pq2, px⟩) T N sl sw sn ⟨ps, pd, pq2, px⟩) := show _ from fun v sl sw sn N T hv => hv.step fun O hx => ix_come hx ⟨ps, pd, pq2, px⟩
            generalize comeE S ⟨ps, pd, pq2, px⟩ = ce at *
            generalize comeS S ⟨ps, pd, pq2, px⟩ = S8 at *
            have HLC : Hid (S8.W.length ≤ k + 1) := show S8.W.length ≤ k + 1 from by omega
            generalize hsl : S.L.length = nl at *
            generalize hsw : S.W.length = nw at *
            generalize hsn : N.length = nn at *
            simp only [bvv, pkv, pkc] at RC
            have y0 := PX7.out.r.cell 0
            have y1 := PX7.out.r.cell 1
            have y2 := PX7.out.r.cell 2
            have y3 := PX7.out.r.cell 3
            simp only [List.getElem?_toArray, List.getElem?_cons_zero, List.getElem?_cons_succ] at y0 y1 y2 y3
            have p0 := PX7.out.k.cell 0
            have p1 := PX7.out.k.cell 1
            have p2 := PX7.out.k.cell 2
            have p3 := PX7.out.k.cell 3
            simp only [List.getElem?_toArray, List.getElem?_cons_zero, List.getElem?_cons_succ] at p0 p1 p2 p3
            clear LC OK7 hW7 hN7
            go_upto_region 16 with (go_at_call 16; with_reducible refine RC.mono ?_; rintro e v8 ⟨sw8, rfl, m8, hb8, n8⟩; obtain ⟨⟨a8, c8, e8, _⟩, _⟩ := m8.k; subst e8)
            have PX8 : Px w (v8.alloc (.cells #[.int .i64 (S8.n : Int), .slice a1 nl b1, .slice a8 S8.W.length c8, .slice a3 nn b3] 29)) b rb d S S N (.slice a1 nl b1) (.slice a2 nw b2) (.slice a3 nn b3) ⟨ps, pd, pq2, px⟩ := PX7.out.next (hb8.alloc hb8.size _)
            have N8 := Bk.new v8 #[.int .i64 (S8.n : Int), .slice a1 nl b1, .slice a8 S8.W.length c8, .slice a3 nn b3] 29
            have PX9 := PX7.out.doc (hb8.alloc hb8.size (.cells #[.int .i64 (S8.n : Int), .slice a1 nl b1, .slice a8 S8.W.length c8, .slice a3 nn b3] 29)) (m8.next ((Below.refl _ _).alloc (Nat.le_refl _) _)) (own_k n8)
            have CI9 := CI.out _ _ _ _ _ _ PX9
            clear y0 y1 y2 y3 p0 p1 p2 p3 RC CI
            have y0 := N8.cell 0
            have y1 := N8.cell 1
            have y2 := N8.cell 2
            have y3 := N8.cell 3
            simp only [List.getElem?_toArray, List.getElem?_cons_zero, List.getElem?_cons_succ] at y0 y1 y2 y3
            have z0 := PX8.r.cell 0
            have z1 := PX8.r.cell 1
            have z2 := PX8.r.cell 2
            have z3 := PX8.r.cell 3
            simp only [List.getElem?_toArray, List.getElem?_cons_zero, List.getElem?_cons_succ] at z0 z1 z2 z3
            have zf0 := PX8.r.free 0
            have zf1 := PX8.r.free 1
            have zf2 := PX8.r.free 2
            have zf3 := PX8.r.free 3
            have HP : Hid (RB (v8.alloc (.cells #[.int .i64 (S8.n : Int), .slice a1 nl b1, .slice a8 S8.W.length c8, .slice a3 nn b3] 29)) S8 N (.slice a1 nl b1) (.slice a8 S8.W.length c8) (.slice a3 nn b3)) := m8.next ((Below.refl _ _).alloc (Nat.le_refl _) _)
            have p0 := PX9.k.cell 0
            have p1 := PX9.k.cell 1
            have p2 := PX9.k.cell 2
            have p3 := PX9.k.cell 3
            simp only [List.getElem?_toArray, List.getElem?_cons_zero, List.getElem?_cons_succ] at p0 p1 p2 p3
            clear PX9 PX8 N8 PX7 m8 hb8 n8
            go_upto_region 17 with fail
            clear y0 y1 y2 y3 z0 z1 z2 z3 zf0 zf1 zf2 zf3 HP
            generalize ((((v8.alloc (.cells #[.int .i64 (S8.n : Int), .slice a1 nl b1, .slice a8 S8.W.length c8, .slice a3 nn b3] 29)).setCell ⟨rb, 0, none⟩ (.int .i64 (S8.n : Int))).setCell ⟨rb, 1, none⟩ (.slice a1 nl b1)).setCell ⟨rb, 2, none⟩ (.slice a8 S8.W.length c8)).setCell ⟨rb, 3, none⟩ (.slice a3 nn b3) = v9 at *
            go_wp2_with (go_at_call 17; with_reducible refine CI9.mono ?_; rintro e v10 ⟨rfl, PX10⟩)
            go_meet
            exact ⟨rfl, S8, N, _, _, _, PX10, HLC.out, by have := HNN7.out; omega⟩
        · as_aux_lemma =>
            have RT := rtell_any PX7.out.m OK7 hW7 hN7
            have LT := tellS_len S
            have CI : Hid (∀ (v : World) (sl sw sn : Value) (N : List (Int × Int)) (T : IS), Px w v b rb d S T N sl sw sn ⟨ps, pd, pq2, px⟩ → Calls Try.prog 19 #[.pointer (some ⟨b, 0, none⟩)] v fun e w' => e = .returned (.bool (tellB S)) ∧ Px w w' b rb d (tellS S) T N sl sw sn ⟨ps, pd, pq2, px⟩) := show _ from fun v sl sw sn N T hv => hv.step fun O hx => ix_tell hx
            generalize tellB S = tb at *
            generalize tellS S = S8 at *
            have HLC : Hid (S8.W.length ≤ k + 1) := show S8.W.length ≤ k + 1 from by omega
            generalize hsl : S.L.length = nl at *
            generalize hsw : S.W.length = nw at *
            generalize hsn : N.length = nn at *
            simp only [bvv] at RT
            have y0 := PX7.out.r.cell 0
            have y1 := PX7.out.r.cell 1
            have y2 := PX7.out.r.cell 2
            have y3 := PX7.out.r.cell 3
            simp only [List.getElem?_toArray, List.getElem?_cons_zero, List.getElem?_cons_succ] at y0 y1 y2 y3
            clear LT OK7 hW7 hN7
            go_upto_region 20 with (go_at_call 18; with_reducible refine RT.mono ?_; rintro e v8 ⟨sl8, sw8, sn8, N8, rfl, m8, hb8, n8, hN8⟩; obtain ⟨⟨a4, c4, e4, _⟩, _⟩ := m8.l; subst e4; obtain ⟨⟨a5, c5, e5, _⟩, _⟩ := m8.k; subst e5; obtain ⟨⟨a6, c6, e6, _⟩, _⟩ := m8.n; subst e6; generalize hn4 : S8.L.length = n4 at *; generalize hn5 : S8.W.length = n5 at *; generalize hn6 : N8.length = n6 at *)
            have HN6 : Hid (N8.length = n6) := hn6
            have HN5 : Hid (S8.W.length = n5) := hn5
            have hb9 : Below v7.heap.size v7 (v8.alloc (.cells #[.int .i64 (S8.n : Int), .slice a4 n4 c4, .slice a5 n5 c5, .slice a6 n6 c6] 29)) := hb8.alloc hb8.size _
            have PX8 := PX7.out.next hb9
            have N8b := Bk.new v8 #[.int .i64 (S8.n : Int), .slice a4 n4 c4, .slice a5 n5 c5, .slice a6 n6 c6] 29
            have PX9 := PX7.out.doc hb9 (m8.next ((Below.refl _ _).alloc (Nat.le_refl _) (.cells #[.int .i64 (S8.n : Int), .slice a4 n4 c4, .slice a5 n5 c5, .slice a6 n6 c6] 29))) n8
            have CI9 := CI.out _ _ _ _ _ _ PX9
            clear y0 y1 y2 y3 RT CI
            have y0 := N8b.cell 0
            have y1 := N8b.cell 1
            have y2 := N8b.cell 2
            have y3 := N8b.cell 3
            simp only [List.getElem?_toArray, List.getElem?_cons_zero, List.getElem?_cons_succ] at y0 y1 y2 y3
            have z0 := PX8.r.cell 0
            have z1 := PX8.r.cell 1
            have z2 := PX8.r.cell 2
            have z3 := PX8.r.cell 3
            simp only [List.getElem?_toArray, List.getElem?_cons_zero, List.getElem?_cons_succ] at z0 z1 z2 z3
            have zf0 := PX8.r.free 0
            have zf1 := PX8.r.free 1
            have zf2 := PX8.r.free 2
            have zf3 := PX8.r.free 3
            clear PX9 PX8 N8b PX7 m8 hb8 n8 hb9
            go_upto_region 21 with fail
            clear y0 y1 y2 y3 z0 z1 z2 z3 zf0 zf1 zf2 zf3
            generalize (((((v8.alloc (.cells #[.int .i64 (S8.n : Int), .slice a4 n4 c4, .slice a5 n5 c5, .slice a6 n6 c6] 29)).setCell ⟨rb, 0, none⟩ (.int .i64 (S8.n : Int))).setCell ⟨rb, 1, none⟩ (.slice a4 n4 c4)).setCell ⟨rb, 2, none⟩ (.slice a5 n5 c5)).setCell ⟨rb, 3, none⟩ (.slice a6 n6 c6)) = v9 at *
            go_wp2_with (go_at_call 19; with_reducible refine CI9.mono ?_; rintro e v10 ⟨rfl, PX10⟩)
            go_meet
            exact ⟨by simp, S8, N8, _, _, _, PX10, by rw [HN5.out]; exact HLC.out, by have := HN6.out; omega⟩
        · as_aux_lemma =>
            have RT := rrecv_any PX7.out.m
            have CI : Hid (∀ (V : World) (O : Nat → Prop), Ix w V b S O → Calls Try.prog 21 #[.pointer (some ⟨b, 0, none⟩)] V fun e w' => e = .returned (.tuple #[pkv (recvV S), .int .i64 (recvE S)]) ∧ Ix w w' b (recvS S) O ∧ Kp O V w') := show _ from fun V O hx => ix_recv hx
            have EQ := run_eq_pk
            generalize recvV S = rv at *
            generalize recvE S = re at *
            have HLC : Hid ((recvS S).W.length ≤ k + 1) := show (recvS S).W.length ≤ k + 1 from by show S.W.length ≤ k + 1; omega
            generalize recvS S = S8 at *
            obtain ⟨qs, qd, qq, qx⟩ := rv
            generalize hsl : S.L.length = nl at *
            generalize hsw : S.W.length = nw at *
            generalize hsn : N.length = nn at *
            simp only [bvv, pkv, pkc] at RT CI
            replace EQ := EQ qs qd qq qx
            have y0 := PX7.out.r.cell 0
            have y1 := PX7.out.r.cell 1
            have y2 := PX7.out.r.cell 2
            have y3 := PX7.out.r.cell 3
            simp only [List.getElem?_toArray, List.getElem?_cons_zero, List.getElem?_cons_succ] at y0 y1 y2 y3
            clear OK7 hW7 hN7
            go_upto_region 24 with (go_at_call 20; with_reducible refine RT.mono ?_; rintro e v8 ⟨sl8, rfl, m8, hb8, n8⟩; obtain ⟨⟨a4, c4, e4, _⟩, _⟩ := m8.l; subst e4; generalize hn4 : S8.L.length = n4 at *)
            have BA : Below v8.heap.size v8 ((v8.alloc (.cells #[.int .i64 (S8.n : Int), .slice a4 n4 c4, .slice a2 nw b2, .slice a3 nn b3] 29)).alloc (.cells #[.int .i64 qs, .int .i64 qd, .int .i64 qq, .string qx] 33)) := ((Below.refl _ _).alloc (Nat.le_refl _) _).alloc (by simp) _
            have hb9 : Below v7.heap.size v7 ((v8.alloc (.cells #[.int .i64 (S8.n : Int), .slice a4 n4 c4, .slice a2 nw b2, .slice a3 nn b3] 29)).alloc (.cells #[.int .i64 qs, .int .i64 qd, .int .i64 qq, .string qx] 33)) := hb8.trans (BA.mono hb8.size)
            have PX8 := PX7.out.next hb9
            have N8b : Bk ((v8.alloc (.cells #[.int .i64 (S8.n : Int), .slice a4 n4 c4, .slice a2 nw b2, .slice a3 nn b3] 29)).alloc (.cells #[.int .i64 qs, .int .i64 qd, .int .i64 qq, .string qx] 33)) v8.heap.size #[.int .i64 (S8.n : Int), .slice a4 n4 c4, .slice a2 nw b2, .slice a3 nn b3] 29 := (Bk.new v8 _ _).alloc _
            have Q8 : Bk ((v8.alloc (.cells #[.int .i64 (S8.n : Int), .slice a4 n4 c4, .slice a2 nw b2, .slice a3 nn b3] 29)).alloc (.cells #[.int .i64 qs, .int .i64 qd, .int .i64 qq, .string qx] 33)) (v8.heap.size + 1) #[.int .i64 qs, .int .i64 qd, .int .i64 qq, .string qx] 33 := by
              have := Bk.new (v8.alloc (.cells #[.int .i64 (S8.n : Int), .slice a4 n4 c4, .slice a2 nw b2, .slice a3 nn b3] 29)) #[.int .i64 qs, .int .i64 qd, .int .i64 qq, .string qx] 33
              rwa [show (v8.alloc (.cells #[.int .i64 (S8.n : Int), .slice a4 n4 c4, .slice a2 nw b2, .slice a3 nn b3] 29)).heap.size = v8.heap.size + 1 by simp] at this
            have CI9 := PX7.out.doc2 hb9 (m8.next BA) (own_l n8) Q8 (by have := hb8.size; omega) CI.out
            clear y0 y1 y2 y3 RT CI
            have y0 := N8b.cell 0
            have y1 := N8b.cell 1
            have y2 := N8b.cell 2
            have y3 := N8b.cell 3
            simp only [List.getElem?_toArray, List.getElem?_cons_zero, List.getElem?_cons_succ] at y0 y1 y2 y3
            have z0 := PX8.r.cell 0
            have z1 := PX8.r.cell 1
            have z2 := PX8.r.cell 2
            have z3 := PX8.r.cell 3
            simp only [List.getElem?_toArray, List.getElem?_cons_zero, List.getElem?_cons_succ] at z0 z1 z2 z3
            have zf0 := PX8.r.free 0
            have zf1 := PX8.r.free 1
            have zf2 := PX8.r.free 2
            have zf3 := PX8.r.free 3
            clear PX8 N8b Q8 PX7 m8 hb8 n8 hb9 BA
            go_upto_region 25 with fail
            clear y0 y1 y2 y3 z0 z1 z2 z3 zf0 zf1 zf2 zf3
            generalize ((((((v8.alloc (.cells #[.int .i64 (S8.n : Int), .slice a4 n4 c4, .slice a2 nw b2, .slice a3 nn b3] 29)).alloc (.cells #[.int .i64 qs, .int .i64 qd, .int .i64 qq, .string qx] 33)).setCell ⟨rb, 0, none⟩ (.int .i64 (S8.n : Int))).setCell ⟨rb, 1, none⟩ (.slice a4 n4 c4)).setCell ⟨rb, 2, none⟩ (.slice a2 nw b2)).setCell ⟨rb, 3, none⟩ (.slice a3 nn b3)) = v9 at *
            generalize v8.heap.size = qb at *
            go_upto_region 26 with (go_at_call 21; with_reducible refine CI9.mono ?_; rintro e v10 ⟨rfl, PX10, Q10⟩)
            have Q11 : Bk (v10.alloc (.cells #[.int .i64 qs, .int .i64 qd, .int .i64 qq, .string qx] 33)) (qb + 1) #[.int .i64 qs, .int .i64 qd, .int .i64 qq, .string qx] 33 := Q10.alloc _
            have N11 : Bk (v10.alloc (.cells #[.int .i64 qs, .int .i64 qd, .int .i64 qq, .string qx] 33)) v10.heap.size #[.int .i64 qs, .int .i64 qd, .int .i64 qq, .string qx] 33 := Bk.new v10 _ _
            have PX11 := PX10.next (v' := v10.alloc (.cells #[.int .i64 qs, .int .i64 qd, .int .i64 qq, .string qx] 33)) ((Below.refl _ _).alloc (Nat.le_refl _) _)
            have y0 := Q11.cell 0
            have y1 := Q11.cell 1
            have y2 := Q11.cell 2
            have y3 := Q11.cell 3
            simp only [List.getElem?_toArray, List.getElem?_cons_zero, List.getElem?_cons_succ] at y0 y1 y2 y3
            have z0 := N11.cell 0
            have z1 := N11.cell 1
            have z2 := N11.cell 2
            have z3 := N11.cell 3
            simp only [List.getElem?_toArray, List.getElem?_cons_zero, List.getElem?_cons_succ] at z0 z1 z2 z3
            clear Q10 PX10 Q11 N11 CI9
            generalize v10.alloc (.cells #[.int .i64 qs, .int .i64 qd, .int .i64 qq, .string qx] 33) = v11 at *
            generalize v10.heap.size = xb at *
            go_wp2_with fail
            go_meet
            exact ⟨by simp, S8, N, _, _, _, PX11, HLC.out, by have := HNN7.out; omega⟩
      case rest =>
      obtain ⟨rfl, S9, N9, sl9, sw9, sn9, hPX0, hW9, hN9⟩ := hcut
      clear PX7 OK7 hW7 hN7 HNN7 hk4 HOK HWK HNK
      obtain ⟨⟨a4, b4, e4, hl4, hm4, hz4, hrd4⟩, _⟩ := hPX0.m.l
      subst e4
      obtain ⟨⟨a5, b5, e5, _⟩, _⟩ := hPX0.m.k
      subst e5
      obtain ⟨⟨a6, b6, e6, _⟩, _⟩ := hPX0.m.n
      subst e6
      have ok9 := hPX0.ok
      obtain ⟨nl, hnl⟩ : ∃ nl, S9.L.length = nl := ⟨_, rfl⟩
      obtain ⟨nw, hnw⟩ : ∃ nw, S9.W.length = nw := ⟨_, rfl⟩
      obtain ⟨nn, hnn⟩ : ∃ nn, N9.length = nn := ⟨_, rfl⟩
      obtain ⟨NX, hnx⟩ : ∃ NX, S9.nx ps = NX := ⟨_, rfl⟩
      obtain ⟨n0, hn0⟩ : ∃ n0 : Int, (S9.n : Int) = n0 := ⟨_, rfl⟩
      obtain ⟨X, hX⟩ : ∃ X : Int, (S9.n : Int) - (nl : Int) = X := ⟨_, rfl⟩
      have HNL : Hid (S9.L.length = nl) := hnl
      have HNW : Hid (S9.W.length = nw) := hnw
      have HNN : Hid (N9.length = nn) := hnn
      have HNX : Hid (S9.nx ps = NX) := hnx
      have HN0 : Hid ((S9.n : Int) = n0) := hn0
      have HX9 : Hid ((S9.n : Int) - (nl : Int) = X) := hX
      have wX0 : Hid (IntKind.i64.wrap (n0 - (nl : Int)) = X) := show IntKind.i64.wrap (n0 - (nl : Int)) = X from by
        have := ok9.n64
        have := ok9.len
        rw [← hn0, hX]
        exact wrap_small (by omega) (by omega)
      have hw1000 : nw ≤ 1000 := by omega
      rw [hnl, hnw, hnn] at hPX0
      rw [hnl] at hl4
      rw [hnw] at hW9
      rw [hnn] at hN9
      have HPX0 : Hid (Px w wc b rb d S9 S9 N9 (.slice a4 nl b4) (.slice a5 nw b5) (.slice a6 nn b6) ⟨ps, pd, pq2, px⟩) := hPX0
      cases hL : S9.L with
      | nil =>
        obtain ⟨_, f1, f2⟩ := recvS_nil hL
        obtain rfl : nl = 0 := by rw [← hnl, hL]; rfl
        obtain rfl : X = n0 := by omega
        have wX1 : Hid (IntKind.i64.wrap X = X) := show IntKind.i64.wrap X = X from by simpa using wX0.out
        clear hrd4 hl4 hm4 hz4 hnl hnw hnn hnx hn0 hX ok9 hL HPX0 wX0
        have CP : Calls Try.prog 22 #[.pointer (some ⟨b, 0, none⟩)] wc fun e w' => e = .returned (.tuple #[.agg #[.int .i64 0, .int .i64 0, .int .i64 0, .string ⟨#[]⟩], .int .i64 8]) ∧ Px w w' b rb d S9 S9 N9 (.slice a4 0 b4) (.slice a5 nw b5) (.slice a6 nn b6) ⟨ps, pd, pq2, px⟩ := hPX0.step fun O hx => by
          have := ix_peek hx
          rw [f1, f2] at this
          exact this
        clear hPX0
        go_upto_region 28 with (go_at_call 22; with_reducible refine CP.mono ?_; rintro e v12 ⟨rfl, hPX⟩)
        have PX12 : Hid (Px w (v12.alloc (.cells #[.int .i64 0, .int .i64 0, .int .i64 0, .string ⟨#[]⟩] 33)) b rb d S9 S9 N9 (.slice a4 0 b4) (.slice a5 nw b5) (.slice a6 nn b6) ⟨ps, pd, pq2, px⟩) := hPX.next ((Below.refl _ _).alloc (Nat.le_refl _) _)
        have N12 : Hid (Bk (v12.alloc (.cells #[.int .i64 0, .int .i64 0, .int .i64 0, .string ⟨#[]⟩] 33)) v12.heap.size #[.int .i64 0, .int .i64 0, .int .i64 0, .string ⟨#[]⟩] 33) := Bk.new v12 _ _
        clear hPX CP
        generalize v12.alloc (.cells #[.int .i64 0, .int .i64 0, .int .i64 0, .string ⟨#[]⟩] 33) = v13 at *
        generalize v12.heap.size = xb at *
        have INN : ∀ q : Gw v13, ∃ F, In q.v b S9 F := fun q => (PX12.out.next q.le).inn
        have LC : ∀ q : Gw v13, Calls Try.prog 23 #[.pointer (some ⟨b, 0, none⟩)] q.v fun e w' => e = .returned (.int .i64 (0 : Int)) ∧ Below q.v.heap.size q.v w' := fun q => by
          obtain ⟨F, hI⟩ := INN q
          have := inbox_len hI
          rw [HNL.out] at this
          exact this
        have MC : ∀ q : Gw v13, Calls Try.prog 24 #[.pointer (some ⟨b, 0, none⟩)] q.v fun e w' => e = .returned (.int .i64 X) ∧ Below q.v.heap.size q.v w' := fun q => by
          obtain ⟨F, hI⟩ := INN q
          have := inbox_room hI
          rw [HNL.out, HX9.out] at this
          exact this
        have WC : ∀ q : Gw v13, Calls Try.prog 25 #[.pointer (some ⟨b, 0, none⟩)] q.v fun e w' => e = .returned (.int .i64 (nw : Int)) ∧ Below q.v.heap.size q.v w' := fun q => by
          obtain ⟨F, hI⟩ := INN q
          have := inbox_waits hI
          rw [HNW.out] at this
          exact this
        have NC : ∀ q : Gw v13, Calls Try.prog 26 #[.pointer (some ⟨b, 0, none⟩), .int .i64 ps] q.v fun e w' => e = .returned (.int .i64 NX) ∧ Below q.v.heap.size q.v w' := fun q => by
          obtain ⟨F, hI⟩ := INN q
          have := inbox_next hI wfx
          rw [HNX.out] at this
          exact this
        have YC : ∀ q : Gw v13, Calls Try.prog 27 #[.pointer (some ⟨b, 0, none⟩)] q.v fun e w' => e = .returned (.bool (rdy S9).isSome) ∧ Below q.v.heap.size q.v w' := fun q => by
          obtain ⟨F, hI⟩ := INN q
          exact inbox_ready hI
        have OC : ∀ q : Gw v13, Calls Try.prog 15 #[.agg #[.int .i64 X, .slice a4 0 b4, .slice a5 nw b5, .slice a6 nn b6], .int .i64 ps] q.v fun e w' => e = .returned (.int .i64 NX) ∧ Below q.v.heap.size q.v w' := fun q => by
          have M := (PX12.out.next q.le).m
          have := rof_any (n := X) M.l M.k M.n ps
          rw [M.nx, HNX.out] at this
          exact this
        obtain ⟨z, hz, ZC0⟩ := rready_one PX12.out.m PX12.out.ok (by rw [HNW.out]; exact hw1000)
        rw [HN0.out] at ZC0
        have ZC : ∀ q : Gw v13, Calls Try.prog 28 #[.agg #[.int .i64 X, .slice a4 0 b4, .slice a5 nw b5, .slice a6 nn b6]] q.v fun e w' => e = .returned (.int .i64 z) ∧ Below q.v.heap.size q.v w' := fun q => ZC0 q.v q.le
        have r0 : ∀ q : Gw v13, q.v.cell? ⟨rb, 0, none⟩ = some (.int .i64 X) := fun q => Gw.cell q PX12.out.r.lt (by rw [PX12.out.r.cell 0, ← HN0.out]; rfl)
        have r1 : ∀ q : Gw v13, q.v.cell? ⟨rb, 1, none⟩ = some (.slice a4 0 b4) := fun q => Gw.cell q PX12.out.r.lt (PX12.out.r.cell 1)
        have r2 : ∀ q : Gw v13, q.v.cell? ⟨rb, 2, none⟩ = some (.slice a5 nw b5) := fun q => Gw.cell q PX12.out.r.lt (PX12.out.r.cell 2)
        have r3 : ∀ q : Gw v13, q.v.cell? ⟨rb, 3, none⟩ = some (.slice a6 nn b6) := fun q => Gw.cell q PX12.out.r.lt (PX12.out.r.cell 3)
        have k0 : ∀ q : Gw v13, q.v.cell? ⟨d, 0, none⟩ = some (.int .i64 ps) := fun q => Gw.cell q PX12.out.k.lt (PX12.out.k.cell 0)
        have wX := wX1.out
        clear INN ZC0
        generalize (rdy S9).isSome = rr at *
        rcases hz with ⟨hz, rfl⟩ | ⟨hz, rfl⟩
        · as_aux_lemma =>
            refine region_gw (by kernel_rfl) (by kernel_rfl) ?_
            repeat (first
              | go_big_quiet_skip
              | quiet_step (first
                | (go_at_call 23; exact quiet_below (LC _))
                | (go_at_call 24; exact quiet_below (MC _))
                | (go_at_call 25; exact quiet_below (WC _))
                | (go_at_call 26; exact quiet_below (NC _))
                | (go_at_call 15; exact quiet_below (OC _))
                | (go_at_call 27; exact quiet_below (YC _))
                | (go_at_call 28; exact quiet_below (ZC _))))
            refine wpQuiet_nil ?_
            intro u hw'
            obtain ⟨⟨u', hb⟩, e'⟩ := hw'
            obtain rfl : u = u' := e'
            clear wX wX1 LC MC WC NC YC OC ZC r0 r1 r2 r3 k0 hz
            have PX14 : Hid (Px w u b rb d S9 S9 N9 (.slice a4 0 b4) (.slice a5 nw b5) (.slice a6 nn b6) ⟨ps, pd, pq2, px⟩) := PX12.out.next hb
            have N14 : Hid (Bk u xb #[.int .i64 0, .int .i64 0, .int .i64 0, .string ⟨#[]⟩] 33) := N12.out.next hb
            clear PX12 N12 hb
            go_upto_region 30 with fail
            have r1 : ∀ q : Gw u, q.v.cell? ⟨rb, 1, none⟩ = some (.slice a4 0 b4) := fun q => Gw.cell q PX14.out.r.lt (PX14.out.r.cell 1)
            
            refine region_gw (by kernel_rfl) (by kernel_rfl) ?_
            repeat (first
              | go_big_quiet_skip
              | quiet_step (fail))
            refine wpQuiet_nil ?_
            intro u2 hw'
            obtain ⟨⟨u2', hb⟩, e'⟩ := hw'
            obtain rfl : u2 = u2' := e'
            have Y15 : Hid (Py w u2 b rb S9 N9 (.slice a4 0 b4) (.slice a5 nw b5) (.slice a6 nn b6)) := (PX14.out.next hb).drop
            clear r1 PX14 N14 hb 
            go_wp2_with fail
            go_roundw
            case rel => exact ⟨k + 1, S9, N9, _, _, _, by omega, by go_num, Y15.out, by rw [HNW.out]; exact hW9, by rw [HNN.out]; exact hN9⟩
            case measure => simp [intOf]; omega
        · as_aux_lemma =>
            refine region_gw (by kernel_rfl) (by kernel_rfl) ?_
            repeat (first
              | go_big_quiet_skip
              | quiet_step (first
                | (go_at_call 23; exact quiet_below (LC _))
                | (go_at_call 24; exact quiet_below (MC _))
                | (go_at_call 25; exact quiet_below (WC _))
                | (go_at_call 26; exact quiet_below (NC _))
                | (go_at_call 15; exact quiet_below (OC _))
                | (go_at_call 27; exact quiet_below (YC _))
                | (go_at_call 28; exact quiet_below (ZC _))))
            refine wpQuiet_nil ?_
            intro u hw'
            obtain ⟨⟨u', hb⟩, e'⟩ := hw'
            obtain rfl : u = u' := e'
            clear wX wX1 LC MC WC NC YC OC ZC r0 r1 r2 r3 k0 hz
            have PX14 : Hid (Px w u b rb d S9 S9 N9 (.slice a4 0 b4) (.slice a5 nw b5) (.slice a6 nn b6) ⟨ps, pd, pq2, px⟩) := PX12.out.next hb
            have N14 : Hid (Bk u xb #[.int .i64 0, .int .i64 0, .int .i64 0, .string ⟨#[]⟩] 33) := N12.out.next hb
            clear PX12 N12 hb
            go_upto_region 30 with fail
            have r1 : ∀ q : Gw u, q.v.cell? ⟨rb, 1, none⟩ = some (.slice a4 0 b4) := fun q => Gw.cell q PX14.out.r.lt (PX14.out.r.cell 1)
            
            refine region_gw (by kernel_rfl) (by kernel_rfl) ?_
            repeat (first
              | go_big_quiet_skip
              | quiet_step (fail))
            refine wpQuiet_nil ?_
            intro u2 hw'
            obtain ⟨⟨u2', hb⟩, e'⟩ := hw'
            obtain rfl : u2 = u2' := e'
            have Y15 : Hid (Py w u2 b rb S9 N9 (.slice a4 0 b4) (.slice a5 nw b5) (.slice a6 nn b6)) := (PX14.out.next hb).drop
            clear r1 PX14 N14 hb 
            go_wp2_with fail
            go_roundw
            case rel => exact ⟨k + 1, S9, N9, _, _, _, by omega, by go_num, Y15.out, by rw [HNW.out]; exact hW9, by rw [HNN.out]; exact hN9⟩
            case measure => simp [intOf]; omega
      | cons p0 l0 =>
        obtain ⟨_, f1, f2⟩ := recvS_cons hL
        have hnl2 : nl = l0.length + 1 := by rw [← hnl, hL]; rfl
        obtain ⟨gL, oL, haL, _, _⟩ := rd_pk hrd4 (k := 0) (p := p0) (by rw [hL]; rfl)
        subst haL
        have nl0 : (0 : Int) < (nl : Int) := by omega
        have nl1 : ((nl : Int) == 0) = false := by simp; omega
        have nl2 : 0 < nl := by omega
        have nl3 : (nl == 0) = false := by simp; omega
        have nl4 : ¬ nl = 0 := by omega
        have HL : Hid (S9.L = p0 :: l0) := hL
        clear hrd4 hl4 hm4 hz4 hnl hnw hnn hnx hn0 hX ok9 hL HPX0 hnl2
        have NEQ := run_ne_pk p0.s p0.d p0.q p0.x
        obtain ⟨xs, xd, xq, xx⟩ := p0
        try simp only at NEQ
        have CP : Calls Try.prog 22 #[.pointer (some ⟨b, 0, none⟩)] wc fun e w' => e = .returned (.tuple #[.agg #[.int .i64 xs, .int .i64 xd, .int .i64 xq, .string xx], .int .i64 0]) ∧ Px w w' b rb d S9 S9 N9 (.slice (some ⟨gL, oL, none⟩) nl b4) (.slice a5 nw b5) (.slice a6 nn b6) ⟨ps, pd, pq2, px⟩ := hPX0.step fun O hx => by
          have := ix_peek hx
          rw [f1, f2] at this
          exact this
        clear hPX0
        go_upto_region 28 with (go_at_call 22; with_reducible refine CP.mono ?_; rintro e v12 ⟨rfl, hPX⟩)
        have PX12 : Hid (Px w (v12.alloc (.cells #[.int .i64 xs, .int .i64 xd, .int .i64 xq, .string xx] 33)) b rb d S9 S9 N9 (.slice (some ⟨gL, oL, none⟩) nl b4) (.slice a5 nw b5) (.slice a6 nn b6) ⟨ps, pd, pq2, px⟩) := hPX.next ((Below.refl _ _).alloc (Nat.le_refl _) _)
        have N12 : Hid (Bk (v12.alloc (.cells #[.int .i64 xs, .int .i64 xd, .int .i64 xq, .string xx] 33)) v12.heap.size #[.int .i64 xs, .int .i64 xd, .int .i64 xq, .string xx] 33) := Bk.new v12 _ _
        clear hPX CP
        generalize v12.alloc (.cells #[.int .i64 xs, .int .i64 xd, .int .i64 xq, .string xx] 33) = v13 at *
        generalize v12.heap.size = xb at *
        have INN : ∀ q : Gw v13, ∃ F, In q.v b S9 F := fun q => (PX12.out.next q.le).inn
        have LC : ∀ q : Gw v13, Calls Try.prog 23 #[.pointer (some ⟨b, 0, none⟩)] q.v fun e w' => e = .returned (.int .i64 (nl : Int)) ∧ Below q.v.heap.size q.v w' := fun q => by
          obtain ⟨F, hI⟩ := INN q
          have := inbox_len hI
          rw [HNL.out] at this
          exact this
        have MC : ∀ q : Gw v13, Calls Try.prog 24 #[.pointer (some ⟨b, 0, none⟩)] q.v fun e w' => e = .returned (.int .i64 X) ∧ Below q.v.heap.size q.v w' := fun q => by
          obtain ⟨F, hI⟩ := INN q
          have := inbox_room hI
          rw [HNL.out, HX9.out] at this
          exact this
        have WC : ∀ q : Gw v13, Calls Try.prog 25 #[.pointer (some ⟨b, 0, none⟩)] q.v fun e w' => e = .returned (.int .i64 (nw : Int)) ∧ Below q.v.heap.size q.v w' := fun q => by
          obtain ⟨F, hI⟩ := INN q
          have := inbox_waits hI
          rw [HNW.out] at this
          exact this
        have NC : ∀ q : Gw v13, Calls Try.prog 26 #[.pointer (some ⟨b, 0, none⟩), .int .i64 ps] q.v fun e w' => e = .returned (.int .i64 NX) ∧ Below q.v.heap.size q.v w' := fun q => by
          obtain ⟨F, hI⟩ := INN q
          have := inbox_next hI wfx
          rw [HNX.out] at this
          exact this
        have YC : ∀ q : Gw v13, Calls Try.prog 27 #[.pointer (some ⟨b, 0, none⟩)] q.v fun e w' => e = .returned (.bool (rdy S9).isSome) ∧ Below q.v.heap.size q.v w' := fun q => by
          obtain ⟨F, hI⟩ := INN q
          exact inbox_ready hI
        have OC : ∀ q : Gw v13, Calls Try.prog 15 #[.agg #[.int .i64 n0, .slice (some ⟨gL, oL, none⟩) nl b4, .slice a5 nw b5, .slice a6 nn b6], .int .i64 ps] q.v fun e w' => e = .returned (.int .i64 NX) ∧ Below q.v.heap.size q.v w' := fun q => by
          have M := (PX12.out.next q.le).m
          have := rof_any (n := n0) M.l M.k M.n ps
          rw [M.nx, HNX.out] at this
          exact this
        obtain ⟨z, hz, ZC0⟩ := rready_one PX12.out.m PX12.out.ok (by rw [HNW.out]; exact hw1000)
        rw [HN0.out] at ZC0
        have ZC : ∀ q : Gw v13, Calls Try.prog 28 #[.agg #[.int .i64 n0, .slice (some ⟨gL, oL, none⟩) nl b4, .slice a5 nw b5, .slice a6 nn b6]] q.v fun e w' => e = .returned (.int .i64 z) ∧ Below q.v.heap.size q.v w' := fun q => ZC0 q.v q.le
        have r0 : ∀ q : Gw v13, q.v.cell? ⟨rb, 0, none⟩ = some (.int .i64 n0) := fun q => Gw.cell q PX12.out.r.lt (by rw [PX12.out.r.cell 0, ← HN0.out]; rfl)
        have r1 : ∀ q : Gw v13, q.v.cell? ⟨rb, 1, none⟩ = some (.slice (some ⟨gL, oL, none⟩) nl b4) := fun q => Gw.cell q PX12.out.r.lt (PX12.out.r.cell 1)
        have r2 : ∀ q : Gw v13, q.v.cell? ⟨rb, 2, none⟩ = some (.slice a5 nw b5) := fun q => Gw.cell q PX12.out.r.lt (PX12.out.r.cell 2)
        have r3 : ∀ q : Gw v13, q.v.cell? ⟨rb, 3, none⟩ = some (.slice a6 nn b6) := fun q => Gw.cell q PX12.out.r.lt (PX12.out.r.cell 3)
        have k0 : ∀ q : Gw v13, q.v.cell? ⟨d, 0, none⟩ = some (.int .i64 ps) := fun q => Gw.cell q PX12.out.k.lt (PX12.out.k.cell 0)
        have wX := wX0.out
        clear INN ZC0
        generalize (rdy S9).isSome = rr at *
        rcases hz with ⟨hz, rfl⟩ | ⟨hz, rfl⟩
        · as_aux_lemma =>
            refine region_gw (by kernel_rfl) (by kernel_rfl) ?_
            repeat (first
              | go_big_quiet_skip
              | quiet_step (first
                | (go_at_call 23; exact quiet_below (LC _))
                | (go_at_call 24; exact quiet_below (MC _))
                | (go_at_call 25; exact quiet_below (WC _))
                | (go_at_call 26; exact quiet_below (NC _))
                | (go_at_call 15; exact quiet_below (OC _))
                | (go_at_call 27; exact quiet_below (YC _))
                | (go_at_call 28; exact quiet_below (ZC _))))
            refine wpQuiet_nil ?_
            intro u hw'
            obtain ⟨⟨u', hb⟩, e'⟩ := hw'
            obtain rfl : u = u' := e'
            clear wX wX0 LC MC WC NC YC OC ZC r0 r1 r2 r3 k0 hz
            have PX14 : Hid (Px w u b rb d S9 S9 N9 (.slice (some ⟨gL, oL, none⟩) nl b4) (.slice a5 nw b5) (.slice a6 nn b6) ⟨ps, pd, pq2, px⟩) := PX12.out.next hb
            have N14 : Hid (Bk u xb #[.int .i64 xs, .int .i64 xd, .int .i64 xq, .string xx] 33) := N12.out.next hb
            clear PX12 N12 hb
            go_upto_region 30 with fail
            have r1 : ∀ q : Gw u, q.v.cell? ⟨rb, 1, none⟩ = some (.slice (some ⟨gL, oL, none⟩) nl b4) := fun q => Gw.cell q PX14.out.r.lt (PX14.out.r.cell 1)
            have CL : ∀ q : Gw u, q.v.cell? ⟨gL, oL, none⟩ = some (.int .i64 xs) ∧ q.v.cell? ⟨gL, oL + 1, none⟩ = some (.int .i64 xd) ∧ q.v.cell? ⟨gL, oL + 2, none⟩ = some (.int .i64 xq) ∧ q.v.cell? ⟨gL, oL + 3, none⟩ = some (.string xx) := fun q => by
              obtain ⟨⟨a', c', e', _, _, _, rd⟩, _⟩ := (PX14.out.next q.le).m.l
              simp only [Value.slice.injEq] at e'
              obtain ⟨rfl, _, _⟩ := e'
              obtain ⟨g', o', e', _, q0, q1, q2, q3⟩ := rd_pk rd (k := 0) (by rw [HL.out]; rfl)
              cases e'
              rw [Nat.zero_mul, Nat.add_zero] at q0 q1 q2 q3
              exact ⟨q0, q1, q2, q3⟩
            have c0 := fun q => (CL q).1
            have c1 := fun q => (CL q).2.1
            have c2 := fun q => (CL q).2.2.1
            have c3 := fun q => (CL q).2.2.2
            have x0 : ∀ q : Gw u, q.v.cell? ⟨xb, 0, none⟩ = some (.int .i64 xs) := fun q => Gw.cell q N14.out.lt (N14.out.cell 0)
            have x1 : ∀ q : Gw u, q.v.cell? ⟨xb, 1, none⟩ = some (.int .i64 xd) := fun q => Gw.cell q N14.out.lt (N14.out.cell 1)
            have x2 : ∀ q : Gw u, q.v.cell? ⟨xb, 2, none⟩ = some (.int .i64 xq) := fun q => Gw.cell q N14.out.lt (N14.out.cell 2)
            have x3 : ∀ q : Gw u, q.v.cell? ⟨xb, 3, none⟩ = some (.string xx) := fun q => Gw.cell q N14.out.lt (N14.out.cell 3)
            clear CL
            refine region_gw (by kernel_rfl) (by kernel_rfl) ?_
            repeat (first
              | go_big_quiet_skip
              | quiet_step (fail))
            refine wpQuiet_nil ?_
            intro u2 hw'
            obtain ⟨⟨u2', hb⟩, e'⟩ := hw'
            obtain rfl : u2 = u2' := e'
            have Y15 : Hid (Py w u2 b rb S9 N9 (.slice (some ⟨gL, oL, none⟩) nl b4) (.slice a5 nw b5) (.slice a6 nn b6)) := (PX14.out.next hb).drop
            clear r1 PX14 N14 hb x0 x1 x2 x3 c0 c1 c2 c3
            go_wp2_with fail
            go_roundw
            case rel => exact ⟨k + 1, S9, N9, _, _, _, by omega, by go_num, Y15.out, by rw [HNW.out]; exact hW9, by rw [HNN.out]; exact hN9⟩
            case measure => simp [intOf]; omega
        · as_aux_lemma =>
            refine region_gw (by kernel_rfl) (by kernel_rfl) ?_
            repeat (first
              | go_big_quiet_skip
              | quiet_step (first
                | (go_at_call 23; exact quiet_below (LC _))
                | (go_at_call 24; exact quiet_below (MC _))
                | (go_at_call 25; exact quiet_below (WC _))
                | (go_at_call 26; exact quiet_below (NC _))
                | (go_at_call 15; exact quiet_below (OC _))
                | (go_at_call 27; exact quiet_below (YC _))
                | (go_at_call 28; exact quiet_below (ZC _))))
            refine wpQuiet_nil ?_
            intro u hw'
            obtain ⟨⟨u', hb⟩, e'⟩ := hw'
            obtain rfl : u = u' := e'
            clear wX wX0 LC MC WC NC YC OC ZC r0 r1 r2 r3 k0 hz
            have PX14 : Hid (Px w u b rb d S9 S9 N9 (.slice (some ⟨gL, oL, none⟩) nl b4) (.slice a5 nw b5) (.slice a6 nn b6) ⟨ps, pd, pq2, px⟩) := PX12.out.next hb
            have N14 : Hid (Bk u xb #[.int .i64 xs, .int .i64 xd, .int .i64 xq, .string xx] 33) := N12.out.next hb
            clear PX12 N12 hb
            go_upto_region 30 with fail
            have r1 : ∀ q : Gw u, q.v.cell? ⟨rb, 1, none⟩ = some (.slice (some ⟨gL, oL, none⟩) nl b4) := fun q => Gw.cell q PX14.out.r.lt (PX14.out.r.cell 1)
            have CL : ∀ q : Gw u, q.v.cell? ⟨gL, oL, none⟩ = some (.int .i64 xs) ∧ q.v.cell? ⟨gL, oL + 1, none⟩ = some (.int .i64 xd) ∧ q.v.cell? ⟨gL, oL + 2, none⟩ = some (.int .i64 xq) ∧ q.v.cell? ⟨gL, oL + 3, none⟩ = some (.string xx) := fun q => by
              obtain ⟨⟨a', c', e', _, _, _, rd⟩, _⟩ := (PX14.out.next q.le).m.l
              simp only [Value.slice.injEq] at e'
              obtain ⟨rfl, _, _⟩ := e'
              obtain ⟨g', o', e', _, q0, q1, q2, q3⟩ := rd_pk rd (k := 0) (by rw [HL.out]; rfl)
              cases e'
              rw [Nat.zero_mul, Nat.add_zero] at q0 q1 q2 q3
              exact ⟨q0, q1, q2, q3⟩
            have c0 := fun q => (CL q).1
            have c1 := fun q => (CL q).2.1
            have c2 := fun q => (CL q).2.2.1
            have c3 := fun q => (CL q).2.2.2
            have x0 : ∀ q : Gw u, q.v.cell? ⟨xb, 0, none⟩ = some (.int .i64 xs) := fun q => Gw.cell q N14.out.lt (N14.out.cell 0)
            have x1 : ∀ q : Gw u, q.v.cell? ⟨xb, 1, none⟩ = some (.int .i64 xd) := fun q => Gw.cell q N14.out.lt (N14.out.cell 1)
            have x2 : ∀ q : Gw u, q.v.cell? ⟨xb, 2, none⟩ = some (.int .i64 xq) := fun q => Gw.cell q N14.out.lt (N14.out.cell 2)
            have x3 : ∀ q : Gw u, q.v.cell? ⟨xb, 3, none⟩ = some (.string xx) := fun q => Gw.cell q N14.out.lt (N14.out.cell 3)
            clear CL
            refine region_gw (by kernel_rfl) (by kernel_rfl) ?_
            repeat (first
              | go_big_quiet_skip
              | quiet_step (fail))
            refine wpQuiet_nil ?_
            intro u2 hw'
            obtain ⟨⟨u2', hb⟩, e'⟩ := hw'
            obtain rfl : u2 = u2' := e'
            have Y15 : Hid (Py w u2 b rb S9 N9 (.slice (some ⟨gL, oL, none⟩) nl b4) (.slice a5 nw b5) (.slice a6 nn b6)) := (PX14.out.next hb).drop
            clear r1 PX14 N14 hb x0 x1 x2 x3 c0 c1 c2 c3
            go_wp2_with fail
            go_roundw
            case rel => exact ⟨k + 1, S9, N9, _, _, _, by omega, by go_num, Y15.out, by rw [HNW.out]; exact hW9, by rw [HNN.out]; exact hN9⟩
            case measure => simp [intOf]; omega
    · have t1 : ¬ ((k : Int) < (n : Int)) := by omega
      have HB : Hid (Below w.heap.size w wr) := Y.bl
      clear Y
      go_wp2_with fail
      go_ret
      exact ⟨rfl, HB.out⟩
end Go.Proofs.Ytpmkpjnhdehnhaa

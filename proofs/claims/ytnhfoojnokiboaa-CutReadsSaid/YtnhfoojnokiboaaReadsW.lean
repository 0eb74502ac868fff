/-
  The walk of CutReads.
-/
import Derived.Test.YtnhfoojnokiboaaKindsW
namespace Go.Proofs.Ytnhfoojnokiboaa
open Go.RowKit

theorem vw_one (l : List Nat) : ∀ u ∈ vw l, u.oneCell' = true := by
  intro u hu
  obtain ⟨n, _, rfl⟩ := List.mem_map.1 hu
  rfl
/-- append of a row that is read. -/
theorem wpList_app_row {P : Program} {ops : Array Oper} {rest : List Oper} {o : Oper} {a : Act} {Q : Exit → Act → World → Prop} (hgd : o.guard = none) (s x : Operand) (t e : TypeId) (i : TypeInfo) (z : Value) (bytes : Nat)
    (ho : o.op = .call { callee := .builtin .append, args := #[s, x], argTypes := #[t, t] })
    (ht : P.underlying t = some (.slice e)) (hi : P.info? e = some i) (hz : i.zero = some z) (h1 : i.size = 1) (hby : i.bytes = bytes) (hzs : z.cells.size = 1) (hb8 : bytes ≤ 64)
    (B : Nat) (w : World) (v : Value) (xs : List Value) (hs : a.eval s = v) (hown : Own e w B v xs) (g q m c : Nat) (hx : a.eval x = .slice (some ⟨g, q, none⟩) m c) (ys : List Value) (hm : ys.length = m) (hr : Rd w (some ⟨g, q, none⟩) ys) (hone : ∀ u ∈ ys, u.oneCell' = true)
    (hlen : xs.length + m ≤ 1000000) (hbase : B ≤ w.heap.size)
    (h : ∀ v' w', Own e w' B v' (xs ++ ys) → w.grownBy w' v.ownBlock → wpList P ops Q rest (a.put o.dst v') w') : wpList P ops Q (o :: rest) a w := by
  refine wpList_append_own _ hgd s x t ho B e i z 1 bytes ht hi hz h1 hby hzs (by decide) v xs.length xs hs hown ⟨g, q, none⟩ m c ys hx (by rw [hm, Nat.mul_one]) ?_ hone ?_ ?_ hbase ?_
  · intro j u hj
    obtain ⟨g', o', e1, _, h3⟩ := hr j u hj
    simp only [Option.some.injEq, Addr.mk.injEq] at e1
    obtain ⟨rfl, rfl, _⟩ := e1
    rw [WideShapes.add_plain]
    exact h3
  · unfold maxLen; omega
  · have : (xs.length + m) * bytes ≤ (xs.length + m) * 64 := Nat.mul_le_mul_left _ hb8
    omega
  · intro v' w' hown' hgrow _
    refine h v' w' ?_ hgrow
    unfold Own
    rw [List.length_append, hm]
    exact hown'
theorem vw_take (l : List Nat) (k : Nat) : vw (l.take k) = (vw l).take k := by unfold vw; rw [List.map_take]
theorem vw_drop (l : List Nat) (k : Nat) : vw (l.drop k) = (vw l).drop k := by unfold vw; rw [List.map_drop]
theorem vw_app (l m : List Nat) : vw (l ++ m) = vw l ++ vw m := by unfold vw; rw [List.map_append]
theorem readPc_len (l : List Nat) : (readPc l).1.hs.length ≤ l.length := by
  unfold readPc
  split
  · exact Nat.zero_le _
  · rename_i h
    have h0 : errR l = 0 := by simpa using h
    have := (pk_small (l := l) l.length (Nat.le_refl _) (errR_zero l h0)).1
    rw [pk_all] at this
    split
    · exact this
    · exact Nat.zero_le _
theorem Rd.off0 {w : World} {g o o' : Nat} {l : List Value} (h : l = []) (_ : Rd w (some ⟨g, o, none⟩) l) : Rd w (some ⟨g, o', none⟩) l := by
  subst h
  intro j v hj
  simp at hj
theorem Rd.rdrop {w : World} {g o : Nat} {l : List Value} (h : Rd w (some ⟨g, o, none⟩) l) (k : Nat) : Rd w (some ⟨g, o + k, none⟩) (l.drop k) := by
  intro j v hj
  rw [List.getElem?_drop] at hj
  obtain ⟨g', o', e, hg, hc⟩ := h _ v hj
  simp only [Option.some.injEq, Addr.mk.injEq] at e
  obtain ⟨rfl, rfl, _⟩ := e
  exact ⟨g, o + k, rfl, hg, by rw [Nat.add_assoc]; exact hc⟩
theorem Rd.lies {w : World} {a : Option Addr} {l : List Value} (h : Rd w a l) (hl : 0 < l.length) : ∃ g o, a = some ⟨g, o, none⟩ := by
  obtain ⟨g, o, e, _⟩ := h 0 _ (List.getElem?_eq_getElem hl)
  exact ⟨g, o, e⟩
/-- One of the lists that are read. -/
def Lst (v : World) (x : Value) : Prop := ∃ (A : Option Addr) (l : List Nat) (c : Nat), x = .slice A l.length c ∧ Rd v A (vw l) ∧ l.length ≤ 1000 ∧ ∀ y ∈ l, y < 18446744073709551616

set_option maxRecDepth 100000 in
set_option maxHeartbeats 8000000 in
theorem reads_law (s : Int) (c : Bool) (a : Option Addr) (cap : Nat) (x : ByteArray) (hs : List (Int × Int)) (at' : Int) (wl : List Nat) (aw : Option Addr) (capw : Nat) (w : World) (hm : hs.length ≤ maxLen) (hx : x.size ≤ maxLen) (hr : Rd w a (pc hs)) (hwm : wl.length ≤ maxLen) (hwc : wl.length ≤ capw) (hwW : ∀ y ∈ wl, y < 18446744073709551616) (hrw : Rd w aw (vw wl)) :
    Calls Try.prog 4 #[pcv s c (.slice a hs.length cap) x, .int .i64 at', .slice aw wl.length capw] w fun e w' => e = .returned (.bool true) ∧ Below w.heap.size w w' := by
  obtain ⟨i0, ki, hz0, hz1, hz2⟩ := info_parts Try.info61
  have F := fine ⟨s, c, hs, x⟩
  have GC : ∀ w', Rd w' a (pc hs) → Calls Try.prog 20 #[pcv s c (.slice a hs.length cap) x] w' (PcR w' (gd ⟨s, c, hs, x⟩)) := fun w' h => good_any s c a cap x hs w' hm hx h
  generalize gd ⟨s, c, hs, x⟩ = P at *
  obtain ⟨n, hn⟩ : ∃ n, hs.length = n := ⟨_, rfl⟩
  rw [hn] at GC ⊢
  have HR : Hid (Rd w a (pc hs)) := hr
  have HG : Hid (∀ w', Rd w' a (pc hs) → Calls Try.prog 20 #[pcv s c (.slice a n cap) x] w' (PcR w' P)) := GC
  have H0 : Hid (Bk (w.alloc (.cells #[.int .i64 s, .bool c, .slice a n cap, .string x] 24)) w.heap.size #[.int .i64 s, .bool c, .slice a n cap, .string x] 24) := Bk.new _ _ _
  have B0 : Hid (Below w.heap.size w (w.alloc (.cells #[.int .i64 s, .bool c, .slice a n cap, .string x] 24))) := (Below.refl _ _).alloc (Nat.le_refl _) _
  have LV := lives_any (w.alloc (.cells #[.int .i64 s, .bool c, .slice a n cap, .string x] 24))
  have HRW : Hid (Rd w aw (vw wl)) := hrw
  have HWW : Hid (∀ y ∈ wl, y < 18446744073709551616) := hwW
  clear hr hn hm hx GC hrw hwW
  obtain ⟨nw, hnw⟩ : ∃ n, wl.length = n := ⟨_, rfl⟩
  have HNW : Hid (wl.length = nw) := hnw
  rw [hnw] at hwm hwc ⊢
  unfold maxLen at hwm
  clear hnw
  simp only [pcv, pcc] at *
  go_enter Try.func4, Try.ntmps4
  go_wp2_with fail
  go_at_call 8
  with_reducible refine LV.mono ?_
  rintro e w1 ⟨rfl, hb1⟩
  have B1 : Hid (Below w.heap.size w w1) := B0.out.trans (hb1.mono B0.out.size)
  have H1 : Hid (Bk w1 w.heap.size #[.int .i64 s, .bool c, .slice a n cap, .string x] 24) := H0.out.next hb1
  clear LV hb1 H0 B0
  obtain ⟨M, hM⟩ : ∃ M, min nw 20 = M := ⟨_, rfl⟩
  have HM : Hid (min nw 20 = M) := hM
  have hM20 : M ≤ 20 := by omega
  have hMn : M ≤ nw := by omega
  go_upto_region 3 with fail
  go_cut [2] from 20 to 24 (fun v wc => v = .slice aw M capw ∧ w1 = wc)
  case first =>
    by_cases h20 : nw ≤ 20
    · have f1 : ¬ (20 : Int) < (nw : Int) := by omega
      have f2 : (nw : Int) ≤ 20 := by omega
      obtain rfl : M = nw := by omega
      clear hM
      go_wp2
      all_goals
        go_meet
        exact ⟨by first | rfl | (simp; omega), rfl⟩
    · have f1 : (20 : Int) < (nw : Int) := by omega
      have f2 : ¬ (nw : Int) ≤ 20 := by omega
      have f3 : 20 ≤ capw := by omega
      obtain rfl : M = 20 := by omega
      clear hM
      go_wp2
      all_goals
        go_meet
        exact ⟨by first | rfl | (simp; omega), rfl⟩
  case rest =>
  obtain ⟨rfl, rfl⟩ := hcut
  have WL20 : Hid (Rd w aw (vw (wl.take 20))) := by
    rw [vw_take]
    exact HRW.out.take 20
  have WLn : Hid ((wl.take 20).length = M) := by rw [List.length_take, HNW.out, Nat.min_comm]; exact hM
  have WLw : Hid (∀ y ∈ wl.take 20, y < 18446744073709551616) := fun y hy => HWW.out y (List.mem_of_mem_take hy)
  clear hM HM HRW HNW HWW hwm hMn
  generalize wl.take 20 = W0 at *
  have c0 := H1.out.cell 0
  have c1 := H1.out.cell 1
  have c2 := H1.out.cell 2
  have c3 := H1.out.cell 3
  simp only [List.getElem?_toArray, List.getElem?_cons_zero, List.getElem?_cons_succ] at c0 c1 c2 c3
  have GW := HG.out w1 (HR.out.below B1.out)
  go_wp2_with fail
  go_at_call 20
  with_reducible refine GW.mono ?_
  rintro e w2 ⟨ga, gcap, rfl, hgc, rd2, hb2⟩
  have B2 : Hid (Below w.heap.size w w2) := B1.out.trans (hb2.mono B1.out.size)
  have RW2 := F.rwords ga gcap w2 rd2
  simp only [pcv, pcc] at RW2
  clear GW hb2 H1 B1 HG c0 c1 c2 c3 hgc rd2 HR
  go_wp2_with fail
  go_at_call 11
  with_reducible refine RW2.mono ?_
  rintro e w3 ⟨la, lcap, rfl, hlc, rl3, hb3⟩
  have B3 : Hid (Below w.heap.size w w3) := B2.out.trans (hb3.mono B2.out.size)
  have R3 : Hid (Rd w3 la (vw P.ws)) := rl3
  have W3 : Hid (Rd w3 aw (vw W0)) := WL20.out.below B3.out
  have LW : Hid (∀ y ∈ P.ws, y < 18446744073709551616) := ws_lt P
  have hq17 := F.ws_small.1
  have hq2 := F.ws_small.2
  clear RW2 hb3 B2 rl3 WL20
  generalize P.ws = L at *
  obtain ⟨q, hq⟩ : ∃ q, L.length = q := ⟨_, rfl⟩
  have HQ : Hid (L.length = q) := hq
  rw [hq] at hlc hq17 hq2 ⊢
  have hq1 : 0 < q := by omega
  clear hq hq2 F
  obtain ⟨g, o, rfl⟩ := R3.out.lies (by rw [vw_len, HQ.out]; exact hq1)
  obtain ⟨k, hk⟩ : ∃ k : Nat, IntKind.i64.wrap ((IntKind.u64.wrap at').tmod (q : Int)) = (k : Int) := by
    obtain ⟨z0, z1⟩ := md_in at' (m := (q : Int)) (by omega) (by omega)
    exact ⟨(md at' q).toNat, by unfold md at z0 ⊢; omega⟩
  have hkq : k < q := by
    have := (md_in at' (m := (q : Int)) (by omega) (by omega)).2
    unfold md at this
    omega
  have u1 : IntKind.u64.wrap (q : Int) = (q : Int) := by rw [IntKind.wrap_u64]; omega
  have u2 : ¬ (q : Int) = 0 := by omega
  have e0 : (0 : Int) ≤ (k : Int) := by omega
  have e1 : (k : Int) ≤ (q : Int) := by omega
  have e2 : (k : Int) + 1 ≤ (q : Int) := by omega
  have e3 : k < lcap := by omega
  go_upto_region 6 with fail
  have HLk : (vw (L.take k)).length = k := by rw [vw_len, List.length_take, HQ.out]; omega
  have R3k : Rd w3 (some ⟨g, o, none⟩) (vw (L.take k)) := by rw [vw_take]; exact R3.out.take k
  have ON : Own 61 w3 w3.heap.size (.slice none 0 0) (vw []) := World.ownsRow_nil _ _ _ _
  have hl0 : (vw []).length + k ≤ 1000000 := by show 0 + k ≤ _; omega
  go_upto_region 8 with (at_builtin; go_loud (refine wpList_app_row rfl (.tmp 38) (.tmp 41) 30 61 i0 (.int .u64 0) 8 rfl Try.underlying30 ki hz0 hz1 hz2 rfl (by decide) w3.heap.size w3 (.slice none 0 0) (vw []) rfl ON g o k lcap rfl (vw (L.take k)) HLk R3k (vw_one _) hl0 (Nat.le_refl _) ?_; intro lv w4 o4 g4))
  have B4 : Hid (Below w3.heap.size w3 w4) := Below.grown (Below.refl _ _) g4 (Nat.le_refl _) (fun r hr => by cases hr)
  have O4 : Hid (Own 61 w4 w3.heap.size lv (vw (L.take k))) := o4
  clear g4 o4 HLk R3k ON hl0
  go_cut [10] from 43 to 48 (fun v wc => Own 61 wc w3.heap.size v (vw (L.take k ++ L.drop (k + 1))) ∧ Below w3.heap.size w3 wc)
  case first =>
    have O5 := O4.out
    have hl1 : (vw (L.take k)).length + (q - (k + 1)) ≤ 1000000 := by rw [vw_len, List.length_take]; omega
    have hb4 : w3.heap.size ≤ w4.heap.size := B4.out.size
    have HLd : (vw (L.drop (k + 1))).length = q - (k + 1) := by rw [vw_len, List.length_drop, HQ.out]
    have nl : ∀ r, lv.ownBlock = some r → w3.heap.size ≤ r := fun r hr => (OwnK.lt (k := 1) O5 hr).1
    by_cases hc : lcap = k + 1
    · have R4d : Rd w4 (some ⟨g, o, none⟩) (vw (L.drop (k + 1))) := by
        rw [List.drop_eq_nil_of_le (by rw [HQ.out]; omega)]
        intro j v hj
        simp [vw] at hj
      have hc2 : lcap - (k + 1) = 0 := by omega
      clear hc
      go_wp2_with (at_builtin; go_loud (refine wpList_app_row rfl (.tmp 43) (.tmp 47) 30 61 i0 (.int .u64 0) 8 rfl Try.underlying30 ki hz0 hz1 hz2 rfl (by decide) w3.heap.size w4 lv (vw (L.take k)) rfl O5 g (o) (q - (k + 1)) (0) (by first | rfl | (go_simp; done)) (vw (L.drop (k + 1))) HLd R4d (vw_one _) hl1 hb4 ?_; intro v5 w5 o5 g5))
      go_meet
      exact ⟨by rw [vw_app]; exact o5, Below.grown B4.out g5 B4.out.size nl⟩
    · have R4d : Rd w4 (some ⟨g, o + (k + 1), none⟩) (vw (L.drop (k + 1))) := by
        rw [vw_drop]
        exact (R3.out.below B4.out).rdrop (k + 1)
      have hc2 : ¬ lcap - (k + 1) = 0 := by omega
      have hc3 : k + 1 < lcap := by omega
      go_wp2_with (at_builtin; go_loud (refine wpList_app_row rfl (.tmp 43) (.tmp 47) 30 61 i0 (.int .u64 0) 8 rfl Try.underlying30 ki hz0 hz1 hz2 rfl (by decide) w3.heap.size w4 lv (vw (L.take k)) rfl O5 g (o + (k + 1)) (q - (k + 1)) (lcap - (k + 1)) (by first | rfl | (go_simp; done)) (vw (L.drop (k + 1))) HLd R4d (vw_one _) hl1 hb4 ?_; intro v5 w5 o5 g5))
      go_meet
      exact ⟨by rw [vw_app]; exact o5, Below.grown B4.out g5 B4.out.size nl⟩
  case rest =>
  obtain ⟨o5, b5⟩ := hcut
  obtain ⟨ra, za, rfl, hza, -, rr5⟩ := Own.rd o5
  rw [vw_len] at hza ⊢
  obtain ⟨n5, hn5⟩ : ∃ m, (L.take k ++ L.drop (k + 1)).length = m := ⟨_, rfl⟩
  have HN5 : Hid ((L.take k ++ L.drop (k + 1)).length = n5) := hn5
  rw [hn5] at hza ⊢
  clear hn5
  have B5 : Hid (Below w3.heap.size w3 wc) := b5
  have R5 : Hid (Rd wc ra (vw (L.take k ++ L.drop (k + 1)))) := rr5
  have T5 : Rd wc (some ⟨g, o, none⟩) (vw (L.take (k + 1))) := by rw [vw_take]; exact (R3.out.below b5).take (k + 1)
  have T6 : ∀ V, Below wc.heap.size wc V → Rd V (some ⟨g, o + k, none⟩) (vw (L.drop k)) := fun V h => by
    rw [vw_drop]
    exact ((R3.out.below B5.out).below h).rdrop k
  have HLk : (vw (L.take (k + 1))).length = k + 1 := by rw [vw_len, List.length_take, HQ.out]; omega
  have HLd : (vw (L.drop k)).length = q - k := by rw [vw_len, List.length_drop, HQ.out]
  have ON : Own 61 wc wc.heap.size (.slice none 0 0) (vw []) := World.ownsRow_nil _ _ _ _
  have hl0 : (vw []).length + (k + 1) ≤ 1000000 := by show 0 + (k + 1) ≤ _; omega
  have hl1 : (vw (L.take (k + 1))).length + (q - k) ≤ 1000000 := by rw [HLk]; omega
  clear o5 b5 rr5 O4 B4
  go_upto_region 11 with (at_builtin; go_loud (refine wpList_app_row rfl (.tmp 49) (.tmp 53) 30 61 i0 (.int .u64 0) 8 rfl Try.underlying30 ki hz0 hz1 hz2 rfl (by decide) wc.heap.size wc (.slice none 0 0) (vw []) rfl ON g o (k + 1) lcap rfl (vw (L.take (k + 1))) HLk T5 (vw_one _) hl0 (Nat.le_refl _) ?_; intro lv w6 o6 g6))
  have B6 : Below wc.heap.size wc w6 := Below.grown (Below.refl _ _) g6 (Nat.le_refl _) (fun r hr => by cases hr)
  have T7 := T6 w6 B6
  have B6h : Hid (Below wc.heap.size wc w6) := B6
  have nl : ∀ r, lv.ownBlock = some r → wc.heap.size ≤ r := fun r hr => (OwnK.lt (k := 1) o6 hr).1
  have hb6 : wc.heap.size ≤ w6.heap.size := B6.size
  clear g6 T6 T5 ON B6
  go_upto_region 12 with (at_builtin; go_loud (refine wpList_app_row rfl (.tmp 55) (.tmp 58) 30 61 i0 (.int .u64 0) 8 rfl Try.underlying30 ki hz0 hz1 hz2 rfl (by decide) wc.heap.size w6 lv (vw (L.take (k + 1))) rfl o6 g (o + k) (q - k) (lcap - k) (by first | rfl | (go_simp; done)) (vw (L.drop k)) HLd T7 (vw_one _) hl1 hb6 ?_; intro lv2 w7 o7 g7))
  have B7 : Hid (Below wc.heap.size wc w7) := Below.grown B6h.out g7 B6h.out.size nl
  rw [← vw_app] at o7
  obtain ⟨ta, tz, rfl, htz, -, rr7⟩ := Own.rd o7
  rw [vw_len] at htz ⊢
  obtain ⟨n7, hn7⟩ : ∃ m, (L.take (k + 1) ++ L.drop k).length = m := ⟨_, rfl⟩
  have HN7 : Hid ((L.take (k + 1) ++ L.drop k).length = n7) := hn7
  rw [hn7] at htz ⊢
  clear hn7
  have R7 : Hid (Rd w7 ta (vw (L.take (k + 1) ++ L.drop k))) := rr7
  clear rr7 o7 g7 o6 nl hb6 hl0 hl1 HLk HLd T7
  have HL : Hid (∀ i, i < 4 → ∃ x, (w7.alloc (.cells #[.slice aw M capw, .slice (some ⟨g, o, none⟩) q lcap, .slice ra n5 za, .slice ta n7 tz] 30)).cell? ⟨w7.heap.size, i, none⟩ = some x ∧ Lst (w7.alloc (.cells #[.slice aw M capw, .slice (some ⟨g, o, none⟩) q lcap, .slice ra n5 za, .slice ta n7 tz] 30)) x) := show _ from fun i hi => by
    have hc := cell_of (heap_alloc_new w7 (.cells #[.slice aw M capw, .slice (some ⟨g, o, none⟩) q lcap, .slice ra n5 za, .slice ta n7 tz] 30))
    have d7 : Below w7.heap.size w7 (w7.alloc (.cells #[.slice aw M capw, .slice (some ⟨g, o, none⟩) q lcap, .slice ra n5 za, .slice ta n7 tz] 30)) := (Below.refl _ _).alloc (Nat.le_refl _) _
    have m5 : ∀ y ∈ L.take k ++ L.drop (k + 1), y < 18446744073709551616 := fun y hy => LW.out y (by
      rcases List.mem_append.1 hy with h | h
      · exact List.mem_of_mem_take h
      · exact List.mem_of_mem_drop h)
    have m7 : ∀ y ∈ L.take (k + 1) ++ L.drop k, y < 18446744073709551616 := fun y hy => LW.out y (by
      rcases List.mem_append.1 hy with h | h
      · exact List.mem_of_mem_take h
      · exact List.mem_of_mem_drop h)
    have l5 : (L.take k ++ L.drop (k + 1)).length ≤ 1000 := by rw [List.length_append, List.length_take, List.length_drop, HQ.out]; omega
    have l7 : (L.take (k + 1) ++ L.drop k).length ≤ 1000 := by rw [List.length_append, List.length_take, List.length_drop, HQ.out]; omega
    match i, hi with
    | 0, _ => exact ⟨.slice aw M capw, (hc 0).trans rfl, aw, W0, capw, by rw [WLn.out], (((W3.out.below B5.out).below B7.out).below d7), by rw [WLn.out]; omega, WLw.out⟩
    | 1, _ => exact ⟨.slice (some ⟨g, o, none⟩) q lcap, (hc 1).trans rfl, _, L, lcap, by rw [HQ.out], (((R3.out.below B5.out).below B7.out).below d7), by rw [HQ.out]; omega, LW.out⟩
    | 2, _ => exact ⟨.slice ra n5 za, (hc 2).trans rfl, ra, L.take k ++ L.drop (k + 1), za, by rw [HN5.out], ((R5.out.below B7.out).below d7), l5, m5⟩
    | 3, _ => exact ⟨.slice ta n7 tz, (hc 3).trans rfl, ta, L.take (k + 1) ++ L.drop k, tz, by rw [HN7.out], (R7.out.below d7), l7, m7⟩
  have L8 : Hid (Below w.heap.size w (w7.alloc (.cells #[.slice aw M capw, .slice (some ⟨g, o, none⟩) q lcap, .slice ra n5 za, .slice ta n7 tz] 30))) := ((B3.out.trans (B5.out.mono B3.out.size)).trans (B7.out.mono (Nat.le_trans B3.out.size B5.out.size))).alloc (Nat.le_trans (Nat.le_trans B3.out.size B5.out.size) B7.out.size) _
  have hz8 : w7.heap.size < (w7.alloc (.cells #[.slice aw M capw, .slice (some ⟨g, o, none⟩) q lcap, .slice ra n5 za, .slice ta n7 tz] 30)).heap.size := by simp
  clear R7 B7 R5 B5 W3 R3 B3 WLn WLw HQ LW HN5 HN7 hlc hq17 hq1 hk hkq u1 u2 e0 e1 e2 e3 hza htz B6h hM20 hwc
  go_wp2_with fail
  generalize w7.alloc (.cells #[.slice aw M capw, .slice (some ⟨g, o, none⟩) q lcap, .slice ra n5 za, .slice ta n7 tz] 30) = w8 at *
  generalize w7.heap.size = bb at *
  go_loopw [13] (fun i wr => ∃ j : Nat, j ≤ 4 ∧ i = .int .i64 j ∧ Below w8.heap.size w8 wr) (fun i _ => 4 - (RowKit.intOf i).toNat)
  case atStart => exact ⟨0, by omega, rfl, Below.refl _ _⟩
  case round =>
  obtain ⟨j, hj, rfl, hb9⟩ := hrel
  have B9 : Hid (Below w8.heap.size w8 wr) := hb9
  clear hb9
  by_cases hlt : j < 4
  · have f1 : (j : Int) < 4 := by omega
    have f0 : (0 : Int) ≤ (j : Int) := by omega
    obtain ⟨xv, hx, A, l, cc, rfl, RA, l1000, lW⟩ := HL.out j hlt
    have x9 : wr.cell? ⟨bb, j, none⟩ = some (.slice A l.length cc) := (B9.out.cell (p := ⟨bb, j, none⟩) hz8).trans hx
    have RA9 : Hid (Rd wr A (vw l)) := RA.below B9.out
    have hbz : bb < wr.heap.size := Nat.lt_of_lt_of_le hz8 B9.out.size
    have CR := crd_any l A cc wr (by omega) lW RA9.out
    have RR : ∀ V, Rd V A (vw l) → _ := fun V h => rrd_any l A cc V (by omega) lW h
    have hrn := readPc_len l
    have SM : ∀ (g2 : Option Addr) (c2 : Nat) (g3 : Option Addr) (c3 : Nat) V, (readPc l).1.hs.length ≤ 1000000 → Rd V g2 (pc (readPc l).1.hs) → Rd V g3 (pc (readPc l).1.hs) → _ := fun g2 c2 g3 c3 V h h2 h3 => rsame_any (readPc l).1.s (readPc l).1.s (readPc l).1.c (readPc l).1.c g2 g3 c2 c3 (readPc l).1.x (readPc l).1.x (readPc l).1.hs (readPc l).1.hs V h h h2 h3
    have AS : ∀ (g2 : Option Addr) (c2 : Nat) V, (readPc l).1.hs.length ≤ 5000 → Rd V g2 (pc (readPc l).1.hs) → _ := fun g2 c2 V h h2 => as_any (readPc l).1.s (readPc l).1.c g2 c2 (readPc l).1.x (readPc l).1.hs V h h2
    unfold PcR at AS
    rw [sameB_self] at SM
    obtain ⟨⟨R, er⟩, hR⟩ : ∃ r, readPc l = r := ⟨_, rfl⟩
    rw [hR] at CR RR SM AS hrn
    clear hR hx RA lW
    obtain ⟨ln, hln⟩ : ∃ m, l.length = m := ⟨_, rfl⟩
    rw [hln] at CR RR x9 hrn l1000
    obtain ⟨Rs, Rf, Rh, Rx⟩ := R
    simp only [pcv, pcc] at CR RR SM AS hrn
    obtain ⟨rn, hrl⟩ : ∃ m, Rh.length = m := ⟨_, rfl⟩
    rw [hrl] at CR RR SM AS hrn
    clear hln hrl
    go_wp2_with fail
    go_at_call 21
    with_reducible refine CR.mono ?_
    rintro e w10 ⟨a2, c2, rfl, hc2, rd2, hb10⟩
    have Q1 : Hid (Bk (w10.alloc (.cells #[.int .i64 Rs, .bool Rf, .slice a2 rn c2, .string Rx] 28)) w10.heap.size #[.int .i64 Rs, .bool Rf, .slice a2 rn c2, .string Rx] 28) := Bk.new _ _ _
    have Q2 : Hid (Rd (w10.alloc (.cells #[.int .i64 Rs, .bool Rf, .slice a2 rn c2, .string Rx] 28)) a2 (pc Rh)) := rd2.alloc _
    have Q3 : Hid (Below wr.heap.size wr (w10.alloc (.cells #[.int .i64 Rs, .bool Rf, .slice a2 rn c2, .string Rx] 28))) := hb10.alloc hb10.size _
    have Q4 : Hid (Rd (w10.alloc (.cells #[.int .i64 Rs, .bool Rf, .slice a2 rn c2, .string Rx] 28)) A (vw l)) := RA9.out.below Q3.out
    have x10 : (w10.alloc (.cells #[.int .i64 Rs, .bool Rf, .slice a2 rn c2, .string Rx] 28)).cell? ⟨bb, j, none⟩ = some (.slice A ln cc) := (Q3.out.cell (p := ⟨bb, j, none⟩) hbz).trans x9
    have RR1 := RR _ Q4.out
    clear CR hc2 rd2 hb10 RA9 x9 RR
    go_upto_region 17 with fail
    generalize w10.alloc (.cells #[.int .i64 Rs, .bool Rf, .slice a2 rn c2, .string Rx] 28) = v1 at *
    generalize w10.heap.size = b1 at *
    go_wp2_with fail
    go_at_call 22
    with_reducible refine RR1.mono ?_
    rintro e w11 ⟨a3, c3, rfl, hc3, rd3, hb11⟩
    have P0 : Below v1.heap.size v1 (w11.alloc (.cells #[.int .i64 Rs, .bool Rf, .slice a3 rn c3, .string Rx] 24)) := hb11.alloc hb11.size _
    have P1 : Hid (Bk (w11.alloc (.cells #[.int .i64 Rs, .bool Rf, .slice a3 rn c3, .string Rx] 24)) b1 #[.int .i64 Rs, .bool Rf, .slice a2 rn c2, .string Rx] 28) := Q1.out.next P0
    have P2 : Hid (Bk (w11.alloc (.cells #[.int .i64 Rs, .bool Rf, .slice a3 rn c3, .string Rx] 24)) w11.heap.size #[.int .i64 Rs, .bool Rf, .slice a3 rn c3, .string Rx] 24) := Bk.new _ _ _
    have P3 : Hid (Rd (w11.alloc (.cells #[.int .i64 Rs, .bool Rf, .slice a3 rn c3, .string Rx] 24)) a2 (pc Rh)) := Q2.out.below P0
    have P4 : Hid (Rd (w11.alloc (.cells #[.int .i64 Rs, .bool Rf, .slice a3 rn c3, .string Rx] 24)) a3 (pc Rh)) := rd3.alloc _
    have P5 : Hid (Below w8.heap.size w8 (w11.alloc (.cells #[.int .i64 Rs, .bool Rf, .slice a3 rn c3, .string Rx] 24))) := (B9.out.trans (Q3.out.mono B9.out.size)).trans (P0.mono (Nat.le_trans B9.out.size Q3.out.size))
    clear P0 Q1 Q2 Q3 Q4 x10 RR1 hc3 rd3 hb11 B9
    go_upto_region 18 with fail
    generalize w11.alloc (.cells #[.int .i64 Rs, .bool Rf, .slice a3 rn c3, .string Rx] 24) = v at *
    generalize w11.heap.size = b2 at *
    have SS : ∀ V, Below v.heap.size v V → (fun V : World => V.cell? ⟨b1, 0, none⟩ = some (.int .i64 Rs) ∧ V.cell? ⟨b1, 1, none⟩ = some (.bool Rf) ∧ V.cell? ⟨b1, 2, none⟩ = some (.slice a2 rn c2) ∧ V.cell? ⟨b1, 3, none⟩ = some (.string Rx) ∧ V.cell? ⟨b2, 0, none⟩ = some (.int .i64 Rs) ∧ V.cell? ⟨b2, 1, none⟩ = some (.bool Rf) ∧ V.cell? ⟨b2, 2, none⟩ = some (.slice a3 rn c3) ∧ V.cell? ⟨b2, 3, none⟩ = some (.string Rx)) V := fun V h => ⟨(P1.out.next h).cell 0, (P1.out.next h).cell 1, (P1.out.next h).cell 2, (P1.out.next h).cell 3, (P2.out.next h).cell 0, (P2.out.next h).cell 1, (P2.out.next h).cell 2, (P2.out.next h).cell 3⟩
    have TB : ∀ (V V' : World), Below v.heap.size v V → Below V.heap.size V V' → Below v.heap.size v V' := fun V V' h h' => h.trans (h'.mono h.size)
    have V0 : Below v.heap.size v v.drew := (Below.refl _ _).drew
    have T0 : (fun V : World => V.cell? ⟨b1, 0, none⟩ = some (.int .i64 Rs) ∧ V.cell? ⟨b1, 1, none⟩ = some (.bool Rf) ∧ V.cell? ⟨b1, 2, none⟩ = some (.slice a2 rn c2) ∧ V.cell? ⟨b1, 3, none⟩ = some (.string Rx) ∧ V.cell? ⟨b2, 0, none⟩ = some (.int .i64 Rs) ∧ V.cell? ⟨b2, 1, none⟩ = some (.bool Rf) ∧ V.cell? ⟨b2, 2, none⟩ = some (.slice a3 rn c3) ∧ V.cell? ⟨b2, 3, none⟩ = some (.string Rx)) v.drew := SS _ V0
    have A0 := AS a2 c2 v.drew (by omega) (P3.out.below V0)
    have S1 : ∀ (g2 : Option Addr) (c2 : Nat) V, Below v.heap.size v V → Rd V g2 (pc Rh) → _ := fun g2 c2 V h h2 => SM g2 c2 a3 c3 V (by omega) h2 (P4.out.below h)
    have err : (er == er) = true := by simp
    have er2 : (er != er) = false := by simp
    clear AS SM
    go_region_held3 (fun V : World => V.cell? ⟨b1, 0, none⟩ = some (.int .i64 Rs) ∧ V.cell? ⟨b1, 1, none⟩ = some (.bool Rf) ∧ V.cell? ⟨b1, 2, none⟩ = some (.slice a2 rn c2) ∧ V.cell? ⟨b1, 3, none⟩ = some (.string Rx) ∧ V.cell? ⟨b2, 0, none⟩ = some (.int .i64 Rs) ∧ V.cell? ⟨b2, 1, none⟩ = some (.bool Rf) ∧ V.cell? ⟨b2, 2, none⟩ = some (.slice a3 rn c3) ∧ V.cell? ⟨b2, 3, none⟩ = some (.string Rx))
      (first | exact U2 | exact U1 | exact T0 | go_keep)
      (first
        | (go_at_call 12; (with_reducible refine A0.mono ?_); rintro e w1 ⟨g1, z1, rfl, q1, r1, hb1⟩; have V1 := TB _ _ V0 hb1; have U1 := SS _ V1; have SM1 := S1 g1 z1 w1 V1 r1; clear A0)
        | (go_at_call 19; (with_reducible refine SM1.mono ?_); rintro e w2 ⟨rfl, hb2⟩; have V2 := TB _ _ V1 hb2; have U2 := SS _ V2; clear SM1)
        | fail)
    have X9 : Hid (Below w8.heap.size w8 w2) := P5.out.trans (V2.mono P5.out.size)
    clear P1 P2 P3 P4 P5 SS TB V0 T0 V1 V2 U1 U2 S1
    go_wp2
    go_roundw
    case rel => exact ⟨j + 1, by omega, by go_num, X9.out⟩
    case measure => simp [RowKit.intOf]; omega
  · obtain rfl : j = 4 := by omega
    go_wp2
    go_ret
    exact ⟨rfl, L8.out.trans (B9.out.mono L8.out.size)⟩
end Go.Proofs.Ytnhfoojnokiboaa

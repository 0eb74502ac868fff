/-
  The law of what comes: its walk. (Written by gen_ntakw.py.)
-/
import Derived.Test.YtoejpngdkcnnhaaNcTkP
import Derived.Test.YtoejpngdkcnnhaaNcRf
import Derived.Test.YtoejpngdkcnnhaaNcLives
import Derived.Test.YtoejpngdkcnnhaaCfgs
import Derived.Deep.CutBlock
namespace Go.Proofs.Ytoejpngdkcnnhaa
open Go.RowKit

theorem Nx.nextq {w0 w : World} {b ib : Nat} {S : Nc} {cu : Value} {jb : Nat → Nat} {js : Nat → JS} {X : I.IS} {O : Nat → Prop} (h : Nx w0 w b ib S cu jb js X O) {s : Int} (hs : (Lit.int .i64 s).wf = true) : Calls Try.prog 15 #[.pointer (some ⟨b, 0, none⟩), .int .i64 s] w fun e w' => e = .returned (.int .i64 (X.nx s)) ∧ Nx w0 w' b ib S cu jb js X O ∧ I.Kp O w w' := by
  have hB : Hid (∀ w', I.Ix w0 w' ib X (Oo b S.c.l jb O) → I.Kp (Oo b S.c.l jb O) w w' → Nx w0 w' b ib S cu jb js X O ∧ I.Kp O w w') := show _ from fun w' h1 h2 => h.box h1 h2
  have CL := look_any b w
  have c := h.nb.hd.1
  have CI := I.ix_next h.ix hs
  clear h hs
  generalize X.nx s = R at *
  go_enter Try.func15, Try.ntmps15
  go_wp2_with fail
  go_at_call 33
  with_reducible refine CL.mono ?_
  rintro e v ⟨rfl, rfl⟩
  go_wp2_with (go_at_call 41; with_reducible refine CI.mono ?_; rintro e v ⟨rfl, H, K⟩)
  go_ret
  exact ⟨rfl, (hB.out _ H K).1, (hB.out _ H K).2⟩
theorem Rf.ext {w v v' : World} {b ib : Nat} {S : Nc} {cu : Value} {jb : Nat → Nat} {js : Nat → JS} {X : I.IS} {E : Nat → Prop} {L : LB} (h : Rf w v b ib S cu jb js X E L) (hb : Below v.heap.size v v') {r : Nat} (h1 : v.heap.size ≤ r) (h2 : r < v'.heap.size) : Rf w v' b ib S cu jb js X (fun k => E k ∨ k = r) L := by
  refine ⟨h.nx.tn (T := fun _ => False) ((Tn.refl _ v).below hb) (fun _ c => c.elim) (fun g hg => ?_) rfl (h.nx.nb.next hb), fun x hx => (h.bk x hx).next hb, h.lo⟩
  rcases hg with e | e | e
  · exact ⟨Or.inl (Or.inl e), Nat.lt_of_lt_of_le (h.nx.olt (Or.inl e)) hb.size⟩
  · exact ⟨Or.inl (Or.inr e), Nat.lt_of_lt_of_le (h.nx.olt (Or.inr e)) hb.size⟩
  · exact ⟨Or.inr (by omega), by omega⟩
/-- Five rows of words, as the law's array has them. -/
def Rws (y : World) (cs : Array Value) (WL : Nat → List Nat) (E : Nat → Prop) : Prop := ∀ k, k < 5 → ∃ a cap, cs[k]? = some (.slice a (WL k).length cap) ∧ (WL k).length ≤ cap ∧ Rd y a (vw (WL k)) ∧ ∀ q, a = some q → E q.block
theorem Rws.mono {y y' : World} {cs : Array Value} {WL : Nat → List Nat} {E E' : Nat → Prop} (h : Rws y cs WL E) (hE : ∀ k, E k → E' k) (hk : ∀ k, E k → k < y.heap.size → y'.heap[k]? = y.heap[k]?) (hs : y.heap.size ≤ y'.heap.size) : Rws y' cs WL E' := fun k hk5 => by
  obtain ⟨a, cap, h1, h2, h4, h5⟩ := h k hk5
  refine ⟨a, cap, h1, h2, fun j v hj => ?_, fun q hq => hE _ (h5 q hq)⟩
  obtain ⟨g, off, rfl, hg, hc⟩ := h4 j v hj
  exact ⟨g, off, rfl, Nat.lt_of_lt_of_le hg hs, by rw [World.cell?_of_block (hk g (h5 _ rfl) hg)]; exact hc⟩
theorem Rws.next {y y' : World} {cs : Array Value} {WL : Nat → List Nat} {E : Nat → Prop} (h : Rws y cs WL E) (hb : Below y.heap.size y y') : Rws y' cs WL E := h.mono (fun _ h => h) (fun k _ hk => hb.block k hk) hb.size
theorem Rws.set {y : World} {cs : Array Value} {WL : Nat → List Nat} {E : Nat → Prop} (h : Rws y cs WL E) {k : Nat} (hk : k < 5) {l : List Nat} {a : Option Addr} {cap : Nat} (h2 : l.length ≤ cap) (h4 : Rd y a (vw l)) (h5 : ∀ q, a = some q → E q.block) : Rws y (cs.setIfInBounds k (.slice a l.length cap)) (fun j => if j = k then l else WL j) E := fun j hj => by
  obtain ⟨a0, c0, q1, q2, q4, q5⟩ := h j hj
  by_cases e1 : j = k
  · subst e1
    simp only [if_true]
    exact ⟨a, cap, Array.getElem?_setIfInBounds_self_of_lt (Array.getElem?_eq_some_iff.1 q1).1, h2, h4, h5⟩
  · simp only [if_neg e1]
    exact ⟨a0, c0, by rw [Array.getElem?_setIfInBounds_ne (by omega)]; exact q1, q2, q4, q5⟩
theorem Rws.zero (y : World) (E : Nat → Prop) : Rws y #[.slice none 0 0, .slice none 0 0, .slice none 0 0, .slice none 0 0, .slice none 0 0] (fun _ => []) E := fun k hk => by
  refine ⟨none, 0, ?_, Nat.le_refl _, fun j v hj => by simp [vw] at hj, fun q hq => by cases hq⟩
  obtain rfl | rfl | rfl | rfl | rfl : k = 0 ∨ k = 1 ∨ k = 2 ∨ k = 3 ∨ k = 4 := by omega
  all_goals rfl
/-- The k-th parcel of this law. -/
def tkF (l : List Pc) (k : Nat) : Pc := ⟨(k : Int), false, [(((gd ⟨(l.getD k zp).s, false, (l.getD k zp).hs, (l.getD k zp).x⟩).hs.getD 0 (0, 0)).1, 0)], (gd ⟨(l.getD k zp).s, false, (l.getD k zp).hs, (l.getD k zp).x⟩).x⟩
theorem tkF_five (l : List Pc) {N : Nat} (hN : N ≤ 5) : Five (tkF l) N := by
  refine ⟨hN, fun k hk => ?_, fun _ _ => rfl, fun _ _ => rfl, fun _ _ => rfl⟩
  have hok := gd_ok ⟨(l.getD k zp).s, false, (l.getD k zp).hs, (l.getD k zp).x⟩
  have hl := (gd_len ⟨(l.getD k zp).s, false, (l.getD k zp).hs, (l.getD k zp).x⟩).1
  unfold tkF
  generalize gd ⟨(l.getD k zp).s, false, (l.getD k zp).hs, (l.getD k zp).x⟩ = g at *
  obtain ⟨-, -, ok3, ok4⟩ := (ok_iff _).1 hok
  rw [ok_iff]
  refine ⟨⟨by show (0 : Int) ≤ (k : Int); omega, by show (k : Int) ≤ 4095; omega⟩, ⟨by simp, by simp, Or.inr rfl⟩, ok3, fun h hh => ?_⟩
  simp only [List.mem_singleton] at hh
  subst hh
  have hm : g.hs.getD 0 (0, 0) ∈ g.hs := by
    rw [List.getD_eq_getElem?_getD, List.getElem?_eq_getElem (show 0 < g.hs.length by omega)]
    exact List.getElem_mem _
  have := (headOk_iff _).1 (ok4 _ hm)
  rw [headOk_iff]
  exact ⟨this.1, this.2.1, Int.le_refl 0, by show (0 : Int) ≤ 65535; decide⟩
theorem nine_set {v : World} {A : Nat} {t : TypeId} {a0 a1 a2 a3 a4 a5 a6 a7 a8 x0 x1 x2 x3 x4 x5 x6 x7 x8 : Value} (h : Bk v A #[a0, a1, a2, a3, a4, a5, a6, a7, a8] t) : Bk (((((((((v.setCell ⟨A, 0, none⟩ x0).setCell ⟨A, 1, none⟩ x1).setCell ⟨A, 2, none⟩ x2).setCell ⟨A, 3, none⟩ x3).setCell ⟨A, 4, none⟩ x4).setCell ⟨A, 5, none⟩ x5).setCell ⟨A, 6, none⟩ x6).setCell ⟨A, 7, none⟩ x7).setCell ⟨A, 8, none⟩ x8) A #[x0, x1, x2, x3, x4, x5, x6, x7, x8] t := by
  have := ((((((((h.set 0 x0).set 1 x1).set 2 x2).set 3 x3).set 4 x4).set 5 x5).set 6 x6).set 7 x7).set 8 x8
  simpa using this
theorem below_set {w v : World} {k : Nat} (h : Below w.heap.size w v) (hk : w.heap.size ≤ k) (j : Nat) (x : Value) : Below w.heap.size w (v.setCell ⟨k, j, none⟩ x) :=
  h.trans ⟨rfl, rfl, rfl, by simp, fun i hi => Below.heap_setCell _ ⟨k, j, none⟩ _ i (by show i ≠ k; omega)⟩
def tot (f : Nat → Nat) : Nat → Nat
  | 0 => 0
  | k + 1 => tot f k + f k
theorem tot_le (f : Nat → Nat) (h : ∀ k, f k ≤ 100) : ∀ k, tot f k ≤ 100 * k
  | 0 => Nat.le_refl _
  | k + 1 => by have := tot_le f h k; have := h k; show tot f k + f k ≤ _; omega
theorem tot_five (f : Nat → Nat) : tot f 5 = f 0 + f 1 + f 2 + f 3 + f 4 := by
  show 0 + f 0 + f 1 + f 2 + f 3 + f 4 = _
  omega
theorem tot_bump (c : Nat → Nat) {k : Nat} (hk : k < 5) : tot (bump c k) 5 = tot c 5 + 1 := by
  rw [tot_five, tot_five]
  unfold bump
  obtain rfl | rfl | rfl | rfl | rfl : k = 0 ∨ k = 1 ∨ k = 2 ∨ k = 3 ∨ k = 4 := by omega
  all_goals simp
  all_goals omega
theorem tot_full {c f : Nat → Nat} (h : ∀ k, k < 5 → c k ≤ f k) (e : tot c 5 = tot f 5) : ∀ k, k < 5 → c k = f k := fun k hk => by
  rw [tot_five, tot_five] at e
  have h0 := h 0 (by decide)
  have h1 := h 1 (by decide)
  have h2 := h 2 (by decide)
  have h3 := h 3 (by decide)
  have h4 := h 4 (by decide)
  obtain rfl | rfl | rfl | rfl | rfl : k = 0 ∨ k = 1 ∨ k = 2 ∨ k = 3 ∨ k = 4 := by omega
  all_goals omega
theorem tot_some {c f : Nat → Nat} (e : tot c 5 < tot f 5) : ∃ k, k < 5 ∧ c k < f k := by
  rw [tot_five, tot_five] at e
  by_cases h0 : c 0 < f 0
  · exact ⟨0, by decide, h0⟩
  by_cases h1 : c 1 < f 1
  · exact ⟨1, by decide, h1⟩
  by_cases h2 : c 2 < f 2
  · exact ⟨2, by decide, h2⟩
  by_cases h3 : c 3 < f 3
  · exact ⟨3, by decide, h3⟩
  exact ⟨4, by decide, by omega⟩
theorem rem5 (x : Int) : ∃ k : Nat, k < 5 ∧ wrap64 ((IntKind.u64.wrap x).tmod 5) = (k : Int) := by
  have h : 0 ≤ IntKind.u64.wrap x := by
    show 0 ≤ x % 18446744073709551616
    omega
  have h2 : (IntKind.u64.wrap x).tmod 5 = (IntKind.u64.wrap x) % 5 := Int.tmod_eq_emod_of_nonneg h
  refine ⟨((IntKind.u64.wrap x) % 5).toNat, by omega, ?_⟩
  rw [h2, IntWalk.wrap64_in _ (by omega)]
  omega
theorem i64_wf {n : Int} (h : -9223372036854775808 ≤ n ∧ n ≤ 9223372036854775807) : (Lit.int .i64 n).wf = true := by
  have := wrap64_wf n
  rw [IntWalk.wrap64_in _ h] at this
  exact this
theorem five_len (l : List Pc) {N : Nat} (hN : N ≤ 5) (k : Nat) : (wsF (tkF l) N k).length ≤ 100 := by
  unfold wsF
  by_cases h : k < N
  · rw [if_pos h, ws_len, (tkF_five l hN).one k h]
    have := ((ok_iff _).1 ((tkF_five l hN).ok k h)).2.2.1
    unfold nb
    omega
  · rw [if_neg h]
    exact Nat.zero_le _
set_option maxRecDepth 100000 in
set_option maxHeartbeats 16000000 in
theorem ntakes_law (c0 : G.Cf) (l : List Pc) (a : Option Addr) (cap : Nat) (rw' : List Int) (ra : Option Addr) (rcap : Nat) (w : World) (hr : PsRd w a l) (hr2 : Rd w ra (rw'.map (.int .i64 ·))) (hm : l.length ≤ maxLen) :
    Calls Try.prog 3 #[G.cfv c0, .slice a l.length cap, .slice ra rw'.length rcap] w fun e w' => e = .returned (.bool true) ∧ Below w.heap.size w w' := by
  have LV := fun v => lives_any v
  have CS := fun v => G.small_form c0 v
  have HPS : Hid (PsRd w a l) := hr
  have HRW : Hid (Rd w ra (rw'.map (.int .i64 ·))) := hr2
  obtain ⟨n, hn⟩ : ∃ n, l.length = n := ⟨_, rfl⟩
  have HN : Hid (l.length = n) := hn
  obtain ⟨rn, hrn⟩ : ∃ n, rw'.length = n := ⟨_, rfl⟩
  have HRN : Hid (rw'.length = rn) := hrn
  rw [hn] at hm ⊢
  rw [hrn]
  unfold maxLen at hm
  clear hr hr2 hn hrn
  obtain ⟨cw, ch, cl, cd, cr, ci, cb, we, ca⟩ := c0
  simp only [G.cfv, G.cfc] at *
  have B0 : Hid (Bk (w.alloc (.cells #[.int .i64 cw, .int .i64 ch, .int .i64 cl, .int .i64 cd, .int .i64 cr, .int .i64 ci, .int .i64 cb, .bool we, .bool ca] 23)) w.heap.size #[.int .i64 cw, .int .i64 ch, .int .i64 cl, .int .i64 cd, .int .i64 cr, .int .i64 ci, .int .i64 cb, .bool we, .bool ca] 23) := Bk.new _ _ _
  have HBW : Hid (Below w.heap.size w (w.alloc (.cells #[.int .i64 cw, .int .i64 ch, .int .i64 cl, .int .i64 cd, .int .i64 cr, .int .i64 ci, .int .i64 cb, .bool we, .bool ca] 23))) := (Below.refl _ _).alloc (Nat.le_refl _) _
  go_enter Try.func3, Try.ntmps3
  go_upto_region 1 with fail
  generalize w.alloc (.cells #[.int .i64 cw, .int .i64 ch, .int .i64 cl, .int .i64 cd, .int .i64 cr, .int .i64 ci, .int .i64 cb, .bool we, .bool ca] 23) = v at *
  obtain ⟨A, hA⟩ : ∃ r, w.heap.size = r := ⟨_, rfl⟩
  have HA : Hid (w.heap.size = A) := hA
  rw [hA] at B0 ⊢
  clear hA
  have L0 := LV v
  clear LV
  go_upto_region 3 with (go_at_call 5; with_reducible refine L0.mono ?_; rintro e v1 ⟨rfl, b1⟩)
  have B1 : Hid (Bk v1 A #[.int .i64 cw, .int .i64 ch, .int .i64 cl, .int .i64 cd, .int .i64 cr, .int .i64 ci, .int .i64 cb, .bool we, .bool ca] 23) := B0.out.next b1
  have HB1 : Hid (Below w.heap.size w v1) := HBW.out.trans (b1.mono HBW.out.size)
  clear L0 B0 HBW b1
  obtain ⟨k0, k1, k2, k3, k4, k5, k6, k7, k8⟩ := ncfg B1.out
  go_wp2_with fail
  go_at_call 6
  with_reducible refine (CS v1).mono ?_
  rintro e v2 ⟨dw, dh, dl, dd, dr, di, db, de, da, rfl, b2, ft, s4, s5⟩
  have B2 : Hid (Bk v2 A #[.int .i64 cw, .int .i64 ch, .int .i64 cl, .int .i64 cd, .int .i64 cr, .int .i64 ci, .int .i64 cb, .bool we, .bool ca] 23) := B1.out.next b2
  have HB2 : Hid (Below w.heap.size w v2) := HB1.out.trans (b2.mono HB1.out.size)
  have FT : Hid (G.Fits ⟨dw, dh, dl, dd, dr, di, db, de, da⟩) := ft
  clear CS b2 ft s4 s5 B1 HB1 k0 k1 k2 k3 k4 k5 k6 k7 k8
  have QAc := B2.out
  have f0 := QAc.free 0
  have f1 := QAc.free 1
  have f2 := QAc.free 2
  have f3 := QAc.free 3
  have f4 := QAc.free 4
  have f5 := QAc.free 5
  have f6 := QAc.free 6
  have f7 := QAc.free 7
  have f8 := QAc.free 8
  obtain ⟨k0, k1, k2, k3, k4, k5, k6, k7, k8⟩ := ncfg QAc
  clear QAc
  go_upto_region 4 with fail
  have QE : Hid (Bk (((((((((v2.setCell ⟨A, 0, none⟩ (.int .i64 dw)).setCell ⟨A, 1, none⟩ (.int .i64 dh)).setCell ⟨A, 2, none⟩ (.int .i64 dl)).setCell ⟨A, 3, none⟩ (.int .i64 dd)).setCell ⟨A, 4, none⟩ (.int .i64 dr)).setCell ⟨A, 5, none⟩ (.int .i64 di)).setCell ⟨A, 6, none⟩ (.int .i64 db)).setCell ⟨A, 7, none⟩ (.bool de)).setCell ⟨A, 8, none⟩ (.bool da)) A #[.int .i64 dw, .int .i64 dh, .int .i64 dl, .int .i64 dd, .int .i64 dr, .int .i64 di, .int .i64 db, .bool de, .bool da] 23) := nine_set B2.out
  have HB3 : Hid (Below w.heap.size w (((((((((v2.setCell ⟨A, 0, none⟩ (.int .i64 dw)).setCell ⟨A, 1, none⟩ (.int .i64 dh)).setCell ⟨A, 2, none⟩ (.int .i64 dl)).setCell ⟨A, 3, none⟩ (.int .i64 dd)).setCell ⟨A, 4, none⟩ (.int .i64 dr)).setCell ⟨A, 5, none⟩ (.int .i64 di)).setCell ⟨A, 6, none⟩ (.int .i64 db)).setCell ⟨A, 7, none⟩ (.bool de)).setCell ⟨A, 8, none⟩ (.bool da))) := show _ from by
    have hk : w.heap.size ≤ A := by rw [HA.out]; exact Nat.le_refl _
    exact below_set (below_set (below_set (below_set (below_set (below_set (below_set (below_set (below_set HB2.out hk _ _) hk _ _) hk _ _) hk _ _) hk _ _) hk _ _) hk _ _) hk _ _) hk _ _
  clear f0 f1 f2 f3 f4 f5 f6 f7 f8 k0 k1 k2 k3 k4 k5 k6 k7 k8 B2 HB2
  generalize (((((((((v2.setCell ⟨A, 0, none⟩ (.int .i64 dw)).setCell ⟨A, 1, none⟩ (.int .i64 dh)).setCell ⟨A, 2, none⟩ (.int .i64 dl)).setCell ⟨A, 3, none⟩ (.int .i64 dd)).setCell ⟨A, 4, none⟩ (.int .i64 dr)).setCell ⟨A, 5, none⟩ (.int .i64 di)).setCell ⟨A, 6, none⟩ (.int .i64 db)).setCell ⟨A, 7, none⟩ (.bool de)).setCell ⟨A, 8, none⟩ (.bool da)) = v3 at *
  have hi0 : G.isN ⟨dw, dh, dl, dd, dr, di, db, de, da⟩ 0 = true := by
    have hk := G.chk_fits FT.out
    have hn : G.nod ⟨dw, dh, dl, dd, dr, di, db, de, da⟩ = dw * dh := by unfold G.nod; rw [if_pos hk]
    have := (G.mul_in FT.out.w1 FT.out.w2 FT.out.h1 FT.out.h2).1
    unfold G.isN
    rw [hn]
    simp only [Bool.and_eq_true, decide_eq_true_eq]
    exact ⟨Int.le_refl 0, by show 0 < dw * dh; simp only at this; omega⟩
  obtain ⟨k0, k1, k2, k3, k4, k5, k6, k7, k8⟩ := ncfg QE.out
  have CN := nic_new ⟨dw, dh, dl, dd, dr, di, db, de, da⟩ 0 v3 hi0 ⟨FT.out.l1, FT.out.l2⟩
  simp only [G.cfv, G.cfc] at CN
  clear hi0
  go_upto_region 5 with (go_at_call 7; with_reducible refine CN.mono ?_; rintro e v5 ⟨b, ib, F, jb, rfl, ly⟩)
  have R5 : Hid (Rf w v5 b ib ⟨⟨dw, dh, dl, dd, dr, di, db, de, da⟩, 0, 0, 0⟩ (.slice none 0 0) jb (fun _ => zjs) (I.newI (I.roomN di)) (fun _ => False) []) := show _ from
    ⟨Nx.begin ly HB3.out fun g hg => hg.elim (fun ⟨x, hx, _⟩ => (by cases hx)) fun e => e.elim, fun x hx => (by cases hx), fun x hx => (by cases hx)⟩
  clear CN ly k0 k1 k2 k3 k4 k5 k6 k7 k8 QE HB3
  obtain ⟨nb9, hnb⟩ : ∃ z, I.roomN di = z := ⟨_, rfl⟩
  have HR1 : Hid (1 ≤ nb9) := show _ from by rw [← hnb]; exact (I.roomN_ok di).2.1
  rw [hnb] at R5
  clear hnb
  go_upto_region 6 with fail
  have R6 : Hid (Rf w (v5.alloc (.cells #[.slice none 0 0, .slice none 0 0, .slice none 0 0, .slice none 0 0, .slice none 0 0] 31)) b ib ⟨⟨dw, dh, dl, dd, dr, di, db, de, da⟩, 0, 0, 0⟩ (.slice none 0 0) jb (fun _ => zjs) (I.newI nb9) (fun _ => False) [(v5.heap.size, #[.slice none 0 0, .slice none 0 0, .slice none 0 0, .slice none 0 0, .slice none 0 0], 31)]) := R5.out.alloc #[.slice none 0 0, .slice none 0 0, .slice none 0 0, .slice none 0 0, .slice none 0 0] 31
  clear R5
  generalize v5.alloc (.cells #[.slice none 0 0, .slice none 0 0, .slice none 0 0, .slice none 0 0, .slice none 0 0] 31) = v6 at *
  generalize v5.heap.size = wB at *

  go_upto_block 0 with fail
  go_cut [] from 27 to 57 (fun wc => ∃ (N : Nat) (wcs : Array Value) (E : Nat → Prop), N ≤ 5 ∧ N ≤ n ∧ (N = n ∨ N = 5) ∧ Rf w wc b ib ⟨⟨dw, dh, dl, dd, dr, di, db, de, da⟩, 0, 0, 0⟩ (.slice none 0 0) jb (fun _ => zjs) (I.newI nb9) E [(wB, wcs, 31)] ∧ Rws wc wcs (wsF (tkF l) N) E ∧ ∀ k, E k → wB < k)
  case first =>
    go_wp2_with fail
    go_loopw [9] (fun z wr => ∃ (i : Nat) (wcs : Array Value) (E : Nat → Prop), i ≤ n ∧ i ≤ 5 ∧ z = .int .i64 (i : Int) ∧ Rf w wr b ib ⟨⟨dw, dh, dl, dd, dr, di, db, de, da⟩, 0, 0, 0⟩ (.slice none 0 0) jb (fun _ => zjs) (I.newI nb9) E [(wB, wcs, 31)] ∧ Rws wr wcs (wsF (tkF l) i) E ∧ ∀ k, E k → wB < k) (fun z _ => 5 - (RowKit.intOf z).toNat)
    case atStart => exact ⟨0, _, _, Nat.zero_le _, by decide, rfl, R6.out, by
      have e0 : wsF (tkF l) 0 = fun _ => [] := by funext k; unfold wsF; rw [if_neg (Nat.not_lt_zero k)]
      rw [e0]
      exact Rws.zero _ _, fun k hk => hk.elim⟩
    case round =>
      clear R6
      obtain ⟨i, wcs, E, hi1, hi2, rfl, rf, rws, rlo⟩ := hrel
      have RR : Hid (Rf w wr b ib ⟨⟨dw, dh, dl, dd, dr, di, db, de, da⟩, 0, 0, 0⟩ (.slice none 0 0) jb (fun _ => zjs) (I.newI nb9) E [(wB, wcs, 31)]) := rf
      have RS : Hid (Rws wr wcs (wsF (tkF l) i) E) := rws
      have RL : Hid (∀ k, E k → wB < k) := rlo
      clear rf rws rlo
      by_cases hlt : i < n ∧ i < 5
      case neg =>
        by_cases hin : i < n
        · have h1 : (i : Int) < (n : Int) := by omega
          have h2 : ¬ (i : Int) < 5 := by omega
          go_wp2_with fail
          go_meet
          exact ⟨i, wcs, E, hi2, hi1, by omega, RR.out, RS.out, RL.out⟩
        · have h1 : ¬ (i : Int) < (n : Int) := by omega
          go_wp2_with fail
          go_meet
          exact ⟨i, wcs, E, hi2, hi1, by omega, RR.out, RS.out, RL.out⟩
      obtain ⟨h1, h2⟩ := hlt
      have g1 : (i : Int) < (n : Int) := by omega
      have g2 : (i : Int) < 5 := by omega
      have g3 : (0 : Int) ≤ (i : Int) := by omega
      have HI : Hid (i < n ∧ i < 5) := show _ ∧ _ from ⟨h1, h2⟩
      obtain ⟨P, hP⟩ : ∃ P, l[i]? = some P := ⟨_, List.getElem?_eq_getElem (by rw [HN.out]; exact h1)⟩
      have hgd : l.getD i zp = P := by rw [List.getD_eq_getElem?_getD, hP]; rfl
      obtain ⟨ag, ao, rfl, hag, c0, c1, c3, pa, pcap, c2, hp1, hp2, hp3⟩ := HPS.out i P hP
      have hpf : tkF l i = ⟨(i : Int), false, [(((gd ⟨P.s, false, P.hs, P.x⟩).hs.getD 0 (0, 0)).1, 0)], (gd ⟨P.s, false, P.hs, P.x⟩).x⟩ := by unfold tkF; rw [hgd]
      obtain ⟨ps, pcb, phs, px⟩ := P
      simp only at c0 c1 c2 c3 hp1 hp2 hp3 hpf
      have d0 := (RR.out.bl.cell (p := ⟨ag, ao + i * 4, none⟩) hag).trans c0
      have d1 := (RR.out.bl.cell (p := ⟨ag, ao + i * 4 + 1, none⟩) hag).trans c1
      have d2 := (RR.out.bl.cell (p := ⟨ag, ao + i * 4 + 2, none⟩) hag).trans c2
      have d3 := (RR.out.bl.cell (p := ⟨ag, ao + i * 4 + 3, none⟩) hag).trans c3
      have HPR : Hid (phs.length ≤ maxLen ∧ px.size ≤ maxLen ∧ Rd w pa (pc phs)) := show _ ∧ _ ∧ _ from ⟨hp1, hp2, hp3⟩
      have HPF : Hid (tkF l i = ⟨(i : Int), false, [(((gd ⟨ps, false, phs, px⟩).hs.getD 0 (0, 0)).1, 0)], (gd ⟨ps, false, phs, px⟩).x⟩) := hpf
      clear c0 c1 c2 c3 hp1 hp2 hp3 hP hpf hgd h1 h2
      go_upto_region 10 with fail
      have X1 := Bk.new wr #[.int .i64 ps, .bool pcb, .slice pa phs.length pcap, .string px] 34
      have Y1 : Below wr.heap.size wr (wr.alloc (.cells #[.int .i64 ps, .bool pcb, .slice pa phs.length pcap, .string px] 34)) := (Below.refl _ _).alloc (Nat.le_refl _) _
      have K0 : Hid (Bk (wr.alloc (.cells #[.int .i64 ps, .bool pcb, .slice pa phs.length pcap, .string px] 34)) wr.heap.size #[.int .i64 ps, .bool pcb, .slice pa phs.length pcap, .string px] 34 ∧ Below wr.heap.size wr (wr.alloc (.cells #[.int .i64 ps, .bool pcb, .slice pa phs.length pcap, .string px] 34))) := show _ ∧ _ from ⟨X1, Y1⟩
      clear X1 Y1 d0 d1 d2 d3
      generalize wr.alloc (.cells #[.int .i64 ps, .bool pcb, .slice pa phs.length pcap, .string px] 34) = v1 at *
      obtain ⟨pB, hpB⟩ : ∃ z, wr.heap.size = z := ⟨_, rfl⟩
      have HPB : Hid (wr.heap.size = pB) := hpB
      rw [hpB] at K0 ⊢
      clear hpB
      have d1 := (K0.out.1.cell 1).trans rfl
      have fd1 := K0.out.1.free 1
      simp only [List.getElem?_toArray, List.getElem?_cons_zero, List.getElem?_cons_succ] at d1
      go_upto_region 11 with fail
      have K1 : Hid (Bk (v1.setCell ⟨pB, 1, none⟩ (.bool false)) pB #[.int .i64 ps, .bool false, .slice pa phs.length pcap, .string px] 34 ∧ Below wr.heap.size wr (v1.setCell ⟨pB, 1, none⟩ (.bool false))) := show _ ∧ _ from by
        have h1 := K0.out.1.set 1 (.bool false)
        simp only [List.setIfInBounds_toArray, List.set_cons_succ, List.set_cons_zero] at h1
        have h2 := K0.out.2
        rw [← HPB.out] at h2
        exact ⟨h1, below_set h2 (by rw [HPB.out]; exact Nat.le_refl _) 1 _⟩
      clear K0 d1 fd1
      generalize v1.setCell ⟨pB, 1, none⟩ (.bool false) = v2 at *
      have d0 := (K1.out.1.cell 0).trans rfl
      have d1 := (K1.out.1.cell 1).trans rfl
      have d2 := (K1.out.1.cell 2).trans rfl
      have d3 := (K1.out.1.cell 3).trans rfl
      simp only [List.getElem?_toArray, List.getElem?_cons_zero, List.getElem?_cons_succ] at d0 d1 d2 d3
      have C1 := good_new ps false pa pcap px phs v2 HPR.out.1 HPR.out.2.1 (HPR.out.2.2.below (RR.out.bl.trans (K1.out.2.mono RR.out.bl.size)))
      have gdf := gd_ok ⟨ps, false, phs, px⟩
      have gd1 : (gd ⟨ps, false, phs, px⟩).hs.length = 1 := ((gH_len false phs).2.2).elim (fun h => by cases h) id
      have gdc : (gd ⟨ps, false, phs, px⟩).c = false := rfl
      have ge : (⟨md ps 4096, false, gH false phs, gx px⟩ : Pc) = gd ⟨ps, false, phs, px⟩ := rfl
      rw [ge] at C1
      generalize gd ⟨ps, false, phs, px⟩ = gg at *
      obtain ⟨gs, gc, ghs, gx9⟩ := gg
      simp only at gdc gd1
      subst gdc
      obtain ⟨⟨u, q⟩, rfl⟩ := List.length_eq_one_iff.1 gd1
      have HOK : Hid (Pc.okB ⟨gs, false, [(u, q)], gx9⟩ = true) := gdf
      clear gdf gd1 ge
      unfold PcN at C1
      simp only [pcv, pcc, List.length_cons, List.length_nil, Nat.zero_add] at C1
      go_wp2_with fail
      go_at_call 8
      with_reducible refine C1.mono ?_
      rintro e v6 ⟨ha, hcap, rfl, x1, x2, x3, x4⟩
      obtain ⟨hb, ho, rfl⟩ : ∃ h o, ha = some ⟨h, o, none⟩ := x2.at0 (by show 0 < 2; decide)
      obtain ⟨hh1, csH, tH, hB⟩ := x4 _ rfl
      have hpl : pB < v2.heap.size := K1.out.1.lt
      have hw2 : wr.heap.size ≤ v2.heap.size := K1.out.2.size
      have K2 : Hid (Bk v6 pB #[.int .i64 ps, .bool false, .slice pa phs.length pcap, .string px] 34 ∧ Below wr.heap.size wr v6) := show _ ∧ _ from ⟨K1.out.1.next x3, K1.out.2.trans (x3.mono K1.out.2.size)⟩
      have hu : csH[ho]? = some (.int .i64 u) ∧ csH[ho + 1]? = some (.int .i64 q) := by
        obtain ⟨g9, o9, e9, _, c9⟩ := x2 0 (.int .i64 u) rfl
        obtain ⟨g8, o8, e8, _, c8⟩ := x2 1 (.int .i64 q) rfl
        simp only [Option.some.injEq, Addr.mk.injEq] at e9 e8
        obtain ⟨rfl, rfl, _⟩ := e9
        obtain ⟨rfl, rfl, _⟩ := e8
        exact ⟨by rw [← hB.cell]; exact c9, by rw [← hB.cell]; exact c8⟩
      have HU : Hid (csH[ho]? = some (.int .i64 u) ∧ csH[ho + 1]? = some (.int .i64 q)) := hu
      have HHB : Hid (Bk v6 hb csH tH) := hB
      have hne : ¬ hb = pB := by show ¬ hb = pB; have : v2.heap.size ≤ hb := hh1; omega
      have hne2 : ¬ pB = hb := fun c => hne c.symm
      have HWB : Hid (wr.heap.size ≤ hb) := show _ ≤ _ from Nat.le_trans hw2 hh1
      clear C1 x1 x2 x3 x4 hh1 hB hu hpl hw2 d0 d1 d2 d3 K1
      have d0 := (K2.out.1.cell 0).trans rfl
      have d1 := (K2.out.1.cell 1).trans rfl
      have d2 := (K2.out.1.cell 2).trans rfl
      have d3 := (K2.out.1.cell 3).trans rfl
      have fd0 := K2.out.1.free 0
      have fd1 := K2.out.1.free 1
      have fd2 := K2.out.1.free 2
      have fd3 := K2.out.1.free 3
      simp only [List.getElem?_toArray, List.getElem?_cons_zero, List.getElem?_cons_succ] at d0 d1 d2 d3
      go_upto_region 12 with fail
      have K3 : Hid (Bk ((((v6.setCell ⟨pB, 0, none⟩ (.int .i64 gs)).setCell ⟨pB, 1, none⟩ (.bool false)).setCell ⟨pB, 2, none⟩ (.slice (some ⟨hb, ho, none⟩) 1 hcap)).setCell ⟨pB, 3, none⟩ (.string gx9)) pB #[.int .i64 gs, .bool false, .slice (some ⟨hb, ho, none⟩) 1 hcap, .string gx9] 34 ∧ Bk ((((v6.setCell ⟨pB, 0, none⟩ (.int .i64 gs)).setCell ⟨pB, 1, none⟩ (.bool false)).setCell ⟨pB, 2, none⟩ (.slice (some ⟨hb, ho, none⟩) 1 hcap)).setCell ⟨pB, 3, none⟩ (.string gx9)) hb csH tH ∧ Below wr.heap.size wr ((((v6.setCell ⟨pB, 0, none⟩ (.int .i64 gs)).setCell ⟨pB, 1, none⟩ (.bool false)).setCell ⟨pB, 2, none⟩ (.slice (some ⟨hb, ho, none⟩) 1 hcap)).setCell ⟨pB, 3, none⟩ (.string gx9))) := show _ ∧ _ ∧ _ from by
        have hk : wr.heap.size ≤ pB := by rw [HPB.out]; exact Nat.le_refl _
        exact ⟨fourp_at K2.out.1, (((HHB.out.far hne).far hne).far hne).far hne, below_set (below_set (below_set (below_set K2.out.2 hk _ _) hk _ _) hk _ _) hk _ _⟩
      clear K2 HHB d0 d1 d2 d3 fd0 fd1 fd2 fd3
      generalize ((((v6.setCell ⟨pB, 0, none⟩ (.int .i64 gs)).setCell ⟨pB, 1, none⟩ (.bool false)).setCell ⟨pB, 2, none⟩ (.slice (some ⟨hb, ho, none⟩) 1 hcap)).setCell ⟨pB, 3, none⟩ (.string gx9)) = v7 at *
      have d0 := (K3.out.1.cell 0).trans rfl
      have d2 := (K3.out.1.cell 2).trans rfl
      have fd0 := K3.out.1.free 0
      simp only [List.getElem?_toArray, List.getElem?_cons_zero, List.getElem?_cons_succ] at d0 d2
      have hc1 := (K3.out.2.1.cell (ho + 1)).trans HU.out.2
      have hf1 := K3.out.2.1.free (ho + 1)
      go_upto_region 14 with fail
      clear d0 d2 fd0 hc1 hf1
      have K4 : Hid (Bk ((v7.setCell ⟨pB, 0, none⟩ (.int .i64 (i : Int))).setCell ⟨hb, ho + 1, none⟩ (.int .i64 0)) pB #[.int .i64 (i : Int), .bool false, .slice (some ⟨hb, ho, none⟩) 1 hcap, .string gx9] 34 ∧ Bk ((v7.setCell ⟨pB, 0, none⟩ (.int .i64 (i : Int))).setCell ⟨hb, ho + 1, none⟩ (.int .i64 0)) hb (csH.setIfInBounds (ho + 1) (.int .i64 0)) tH ∧ Below wr.heap.size wr ((v7.setCell ⟨pB, 0, none⟩ (.int .i64 (i : Int))).setCell ⟨hb, ho + 1, none⟩ (.int .i64 0))) := show _ ∧ _ ∧ _ from by
        have hk : wr.heap.size ≤ pB := by rw [HPB.out]; exact Nat.le_refl _
        have h1 := K3.out.1.set 0 (.int .i64 (i : Int))
        simp only [List.setIfInBounds_toArray, List.set_cons_zero] at h1
        exact ⟨h1.far hne2, (K3.out.2.1.far hne).set _ _, below_set (below_set K3.out.2.2 hk _ _) HWB.out _ _⟩
      clear K3
      generalize ((v7.setCell ⟨pB, 0, none⟩ (.int .i64 (i : Int))).setCell ⟨hb, ho + 1, none⟩ (.int .i64 0)) = v8 at *
      have hrd : Rd v8 (some ⟨hb, ho, none⟩) (pc [(u, 0)]) := fun j v hj => by
        refine ⟨hb, ho, rfl, K4.out.2.1.lt, ?_⟩
        rw [K4.out.2.1.cell]
        have hlt : ho + 1 < csH.size := (Array.getElem?_eq_some_iff.1 HU.out.2).1
        match j with
        | 0 =>
          have : v = .int .i64 u := by
            have e : (pc [(u, (0 : Int))])[0]? = some (.int .i64 u) := rfl
            rw [e] at hj
            exact (Option.some.inj hj).symm
          rw [this, Nat.add_zero, Array.getElem?_setIfInBounds_ne (by omega)]
          exact HU.out.1
        | 1 =>
          have : v = .int .i64 0 := by
            have e : (pc [(u, (0 : Int))])[1]? = some (.int .i64 0) := rfl
            rw [e] at hj
            exact (Option.some.inj hj).symm
          rw [this, Array.getElem?_setIfInBounds_self_of_lt hlt]
        | j + 2 =>
          have e : (pc [(u, (0 : Int))])[j + 2]? = none := rfl
          rw [e] at hj
          cases hj
      have hF := (tkF_five l (N := i + 1) (by have := HI.out; omega)).ok i (by omega)
      have HPG : Hid (tkF l i = ⟨(i : Int), false, [(u, 0)], gx9⟩) := HPF.out
      rw [HPG.out] at hF
      have HOKF : Hid (Pc.okB ⟨(i : Int), false, [(u, 0)], gx9⟩ = true) := hF
      have C1 := rwords_new (i : Int) false (some ⟨hb, ho, none⟩) hcap gx9 [(u, 0)] v8 (by simp) (by have := (ok_iff _).1 HOKF.out; have h9 := this.2.2.1; simp only at h9; unfold maxLen; omega) hrd
      rw [wordsR_ok HOKF.out, ← HPG.out] at C1
      simp only [pcv, pcc, List.length_cons, List.length_nil, Nat.zero_add] at C1
      clear hF hrd HU HPF
      have d0 := (K4.out.1.cell 0).trans rfl
      have d1 := (K4.out.1.cell 1).trans rfl
      have d2 := (K4.out.1.cell 2).trans rfl
      have d3 := (K4.out.1.cell 3).trans rfl
      simp only [List.getElem?_toArray, List.getElem?_cons_zero, List.getElem?_cons_succ] at d0 d1 d2 d3
      go_upto_region 15 with (go_at_call 9; with_reducible refine C1.mono ?_; rintro e v9 ⟨aw, capw, rfl, wl, wr9, b9, wq⟩)
      clear C1 d0 d1 d2 d3
      have hwl := ws_len (tkF l i)
      have hone := (tkF_five l (N := i + 1) (by have := HI.out; omega)).one i (by omega)
      obtain ⟨wb, wo, rfl⟩ : ∃ h o, aw = some ⟨h, o, none⟩ := wr9.at0 (by rw [vw_len]; omega)
      have hb89 : Below wr.heap.size wr v9 := K4.out.2.2.trans (b9.mono K4.out.2.2.size)
      have hwb := wq _ rfl
      have hwb2 : wb < v9.heap.size := by
        obtain ⟨g9, o9, e9, hg9, _⟩ := wr9 0 ((vw (tkF l i).ws).getD 0 (.int .u64 0)) (by rw [List.getD_eq_getElem?_getD, List.getElem?_eq_getElem (by rw [vw_len]; omega)]; rfl)
        simp only [Option.some.injEq, Addr.mk.injEq] at e9
        rw [e9.1]
        exact hg9
      have hwbB : wB < wb := Nat.lt_of_lt_of_le (RR.out.at (k := wB) (cs := wcs) (t := 31) (by simp)).lt (Nat.le_trans K4.out.2.2.size hwb)
      have RE := RR.out.ext hb89 (r := wb) (Nat.le_trans K4.out.2.2.size hwb) hwb2
      have RZ : Hid (Rws v9 (wcs.setIfInBounds i (.slice (some ⟨wb, wo, none⟩) (tkF l i).ws.length capw)) (wsF (tkF l) (i + 1)) (fun k => E k ∨ k = wb)) := show _ from by
        have h1 := (RS.out.next hb89).mono (E' := fun k => E k ∨ k = wb) (fun k hk => Or.inl hk) (fun k _ _ => rfl) (Nat.le_refl _)
        have h2 := h1.set (k := i) (by have := HI.out; omega) wl wr9 (fun q hq => by cases hq; exact Or.inr rfl)
        have e0 : (fun j => if j = i then (tkF l i).ws else wsF (tkF l) i j) = wsF (tkF l) (i + 1) := by
          funext j
          unfold wsF
          by_cases e1 : j = i
          · subst e1; rw [if_pos rfl, if_pos (by omega)]
          · rw [if_neg e1]
            by_cases e2 : j < i
            · rw [if_pos e2, if_pos (by omega)]
            · rw [if_neg e2, if_neg (by omega)]
        rw [e0] at h2
        exact h2
      have R9 : Hid (Rf w (v9.setCell ⟨wB, i, none⟩ (.slice (some ⟨wb, wo, none⟩) (tkF l i).ws.length capw)) b ib ⟨⟨dw, dh, dl, dd, dr, di, db, de, da⟩, 0, 0, 0⟩ (.slice none 0 0) jb (fun _ => zjs) (I.newI nb9) (fun k => E k ∨ k = wb) [(wB, wcs.setIfInBounds i (.slice (some ⟨wb, wo, none⟩) (tkF l i).ws.length capw), 31)]) := show _ from RE.set (fun x hx => by cases hx) i _
      have RZ2 : Hid (Rws (v9.setCell ⟨wB, i, none⟩ (.slice (some ⟨wb, wo, none⟩) (tkF l i).ws.length capw)) (wcs.setIfInBounds i (.slice (some ⟨wb, wo, none⟩) (tkF l i).ws.length capw)) (wsF (tkF l) (i + 1)) (fun k => E k ∨ k = wb)) := show _ from by
        refine RZ.out.mono (fun _ h => h) (fun k hk hlt => Below.heap_setCell _ ⟨wB, i, none⟩ _ k ?_) (by simp)
        rcases hk with hk | rfl
        · exact Nat.ne_of_gt (RL.out k hk)
        · exact Nat.ne_of_gt hwbB
      have RL2 : Hid (∀ k, (E k ∨ k = wb) → wB < k) := show _ from fun k hk => hk.elim (RL.out k) fun e => e ▸ hwbB
      have hB9 := RE.at (k := wB) (cs := wcs) (t := 31) (by simp)
      have hf9 := hB9.free i
      have hc9 : ∃ x, v9.cell? ⟨wB, i, none⟩ = some x := by
        obtain ⟨a0, c0, q1, _⟩ := RS.out i (by have := HI.out; omega)
        exact ⟨_, (hB9.cell i).trans q1⟩
      obtain ⟨x9, hx9⟩ := hc9
      clear RE RZ RR RS RL wl wr9 b9 wq hwl hone hb89 hwb hwb2 hwbB hB9 K4
      go_wp2_with fail
      go_roundw
      case rel => exact ⟨i + 1, _, _, by have := HI.out; omega, by have := HI.out; omega, by go_num, R9.out, RZ2.out, RL2.out⟩
      case measure => simp [RowKit.intOf]; omega
  case rest =>
  clear R6 HPS HN
  obtain ⟨N, wcs, E, n1, n2, n3, rf, rws, rlo⟩ := hcut
  have HN5 : Hid (N ≤ 5 ∧ N ≤ n ∧ (N = n ∨ N = 5)) := show _ ∧ _ from ⟨n1, n2, n3⟩
  have RR : Hid (Rf w wc b ib ⟨⟨dw, dh, dl, dd, dr, di, db, de, da⟩, 0, 0, 0⟩ (.slice none 0 0) jb (fun _ => zjs) (I.newI nb9) E [(wB, wcs, 31)]) := rf
  have RS : Hid (Rws wc wcs (wsF (tkF l) N) E) := rws
  have RL : Hid (∀ k, E k → wB < k) := rlo
  clear n1 n2 n3 rf rws rlo
  have h5 := tkF_five l HN5.out.1
  have HF : Hid (Five (tkF l) N) := h5
  have hlen : ∀ k, (fun k => (wsF (tkF l) N k).length) k ≤ 100 := fun k => five_len l HN5.out.1 k
  have HL : Hid (∀ k, (fun k => (wsF (tkF l) N k).length) k ≤ 100) := hlen
  clear h5 hlen
  generalize wc = y at *
  go_upto_block 2 with fail
  go_cut [13] from 58 to 67 (fun z wc => z = .int .i64 ((tot (fun k => (wsF (tkF l) N k).length) 5 : Nat) : Int) ∧ wc = y)
  case first =>
    go_wp2_with fail
    go_loopw [13, 14] (fun z z2 wr => ∃ (k : Nat), k ≤ 5 ∧ z = .int .i64 ((tot (fun k => (wsF (tkF l) N k).length) k : Nat) : Int) ∧ z2 = .int .i64 (k : Int) ∧ wr = y) (fun _ z _ => 5 - (RowKit.intOf z).toNat)
    case atStart => exact ⟨0, by decide, rfl, rfl, rfl⟩
    case round =>
      obtain ⟨k, hk5, rfl, rfl, rfl⟩ := hrel
      by_cases hlt : k < 5
      case neg =>
        have e5 : k = 5 := by omega
        subst e5
        go_wp2_with fail
        go_meet
        exact ⟨rfl, rfl⟩
      have g2 : (k : Int) < 5 := by omega
      have g3 : (0 : Int) ≤ (k : Int) := by omega
      obtain ⟨q, qc, c1, -, -, -⟩ := RS.out k hlt
      have d1 := ((RR.out.at (k := wB) (cs := wcs) (t := 31) (by simp)).cell k).trans c1
      have hb1 := tot_le (fun k => (wsF (tkF l) N k).length) HL.out k
      have hb2 := HL.out k
      have e1 : tot (fun k => (wsF (tkF l) N k).length) (k + 1) = tot (fun k => (wsF (tkF l) N k).length) k + (fun k => (wsF (tkF l) N k).length) k := rfl
      simp only at hb2 e1
      generalize tot (fun k => (wsF (tkF l) N k).length) k = t at *
      generalize (wsF (tkF l) N k).length = m at *
      have g4 : (0 : Int) ≤ (t : Int) ∧ (t : Int) ≤ 500 ∧ (0 : Int) ≤ (m : Int) ∧ (m : Int) ≤ 100 := by omega
      obtain ⟨g4, g5, g6, g7⟩ := g4
      clear c1
      go_wp2_with fail
      go_roundw
      case rel => exact ⟨k + 1, by omega, by rw [e1]; go_num, by go_num, trivial⟩
      case measure => simp [RowKit.intOf]; omega
  case rest =>
  obtain ⟨rfl, ew⟩ := hcut
  rw [ew]
  clear ew wc
  have HT5 : Hid (tot (fun k => (wsF (tkF l) N k).length) 5 ≤ 500) := tot_le (fun k => (wsF (tkF l) N k).length) HL.out 5
  obtain ⟨T, hT⟩ : ∃ t, tot (fun k => (wsF (tkF l) N k).length) 5 = t := ⟨_, rfl⟩
  have HT : Hid (tot (fun k => (wsF (tkF l) N k).length) 5 = T) := hT
  rw [hT] at HT5 ⊢
  clear hT
  go_upto_block 4 with fail
  go_cut [] from 68 to 106 (fun wc => ∃ (js : Nat → JS) (D : List Nat) (wcs : Array Value), Rf w wc b ib ⟨⟨dw, dh, dl, dd, dr, di, db, de, da⟩, 0, 0, 0⟩ (.slice none 0 0) jb js (bxC (tkF l) nb9 D) E [(wB, wcs, 31)] ∧ (∀ d, d ∈ D ↔ d < N) ∧ D.Nodup ∧ ∀ k, k < 40 → (js k).b = false)
  case first =>
    go_wp2_with fail
    go_loopw [15] (fun z wr => ∃ (i : Nat) (c : Nat → Nat) (js : Nat → JS) (D : List Nat) (wcs : Array Value), i ≤ T ∧ z = .int .i64 (i : Int) ∧ Rf w wr b ib ⟨⟨dw, dh, dl, dd, dr, di, db, de, da⟩, 0, 0, 0⟩ (.slice none 0 0) jb js (bxC (tkF l) nb9 D) E [(wB, wcs, 31)] ∧ Cnt (tkF l) N c js D ∧ Rws wr wcs (fun k => (wsF (tkF l) N k).drop (c k)) E ∧ tot c 5 = i) (fun z _ => T - (RowKit.intOf z).toNat)
    case atStart =>
      have e0 : bxC (tkF l) nb9 [] = I.newI nb9 := rfl
      exact ⟨0, fun _ => 0, fun _ => zjs, [], wcs, Nat.zero_le _, rfl, by rw [e0]; exact RR.out, Cnt.start HF.out, RS.out, rfl⟩
    case round =>
      clear RR RS
      obtain ⟨i, c, js, D, wcs, hi, rfl, rf, cn, rws, hti⟩ := hrel
      have RR : Hid (Rf w wr b ib ⟨⟨dw, dh, dl, dd, dr, di, db, de, da⟩, 0, 0, 0⟩ (.slice none 0 0) jb js (bxC (tkF l) nb9 D) E [(wB, wcs, 31)]) := rf
      have RC : Hid (Cnt (tkF l) N c js D) := cn
      have RS : Hid (Rws wr wcs (fun k => (wsF (tkF l) N k).drop (c k)) E) := rws
      have RT : Hid (tot c 5 = i) := hti
      clear rf cn rws hti
      by_cases hlt : i < T
      case neg =>
        have e5 : i = T := by omega
        subst e5
        have hall := tot_full (c := c) (f := (fun k => (wsF (tkF l) N k).length)) RC.out.le (RT.out.trans HT.out.symm)
        go_wp2_with fail
        go_meet
        obtain ⟨q1, q2⟩ := RC.out.done HF.out hall
        exact ⟨js, D, wcs, RR.out, q2, RC.out.nd, q1⟩
      have g2 : (i : Int) < (T : Int) := by omega
      have g3 : (0 : Int) ≤ (i : Int) := by omega
      have HI : Hid (i < T ∧ T ≤ 500) := show _ ∧ _ from ⟨hlt, HT5.out⟩
      go_upto_if 76 with fail
      go_cut [16] from 73 to 83 (fun z wc => wc = wr ∧ ∃ k : Nat, k < 5 ∧ z = .int .i64 (k : Int))
      case first =>
        by_cases hir : i < rn
        · have g4 : (i : Int) < (rn : Int) := by omega
          obtain ⟨x, hx⟩ : ∃ x, rw'[i]? = some x := ⟨_, List.getElem?_eq_getElem (by rw [HRN.out]; exact hir)⟩
          obtain ⟨g, o, rfl, hg, hc⟩ := HRW.out i (.int .i64 x) (by rw [List.getElem?_map, hx]; rfl)
          have d1 := (RR.out.bl.cell (p := ⟨g, o + i, none⟩) hg).trans hc
          clear hx hc
          go_wp2_with fail
          go_meet
          obtain ⟨k, hk, ek⟩ := rem5 x
          exact ⟨rfl, k, hk, by rw [ek]⟩
        · have g4 : ¬ (i : Int) < (rn : Int) := by omega
          go_wp2_with fail
          go_meet
          exact ⟨rfl, 0, by decide, rfl⟩
      case rest =>
      obtain ⟨ew, k1, hk1, rfl⟩ := hcut
      rw [ew]
      clear ew wc
      obtain ⟨k0, hk0, hc0⟩ := tot_some (c := c) (f := (fun k => (wsF (tkF l) N k).length)) (by rw [RT.out, HT.out]; exact HI.out.1)
      go_upto_block 6 with fail
      go_cut [16] from 84 to 91 (fun z wc => wc = wr ∧ ∃ k : Nat, k < 5 ∧ z = .int .i64 (k : Int) ∧ c k < (fun k => (wsF (tkF l) N k).length) k)
      case first =>
        go_wp2_with fail
        go_loopw [16] (fun z w9 => ∃ k : Nat, k < 5 ∧ z = .int .i64 (k : Int) ∧ w9 = wr) (fun z _ => (k0 + 5 - (RowKit.intOf z).toNat) % 5)
        case atStart => exact ⟨k1, hk1, rfl, rfl⟩
        case round =>
          obtain ⟨k, hk5, rfl, rfl⟩ := hrel
          obtain ⟨q, qc, c1, -, -, -⟩ := RS.out k hk5
          have d1 := ((RR.out.at (k := wB) (cs := wcs) (t := 31) (by simp)).cell k).trans c1
          have hb2 := HL.out k
          have hle := RC.out.le k hk5
          have e1 : ((wsF (tkF l) N k).drop (c k)).length = (wsF (tkF l) N k).length - c k := List.length_drop
          simp only at hb2 d1
          rw [e1] at d1
          obtain ⟨m, hm9⟩ : ∃ m, (wsF (tkF l) N k).length - c k = m := ⟨_, rfl⟩
          rw [hm9] at d1
          have g5 : (0 : Int) ≤ (k : Int) := by omega
          have g6 : (k : Int) < 5 := by omega
          clear c1 e1
          by_cases h0 : m = 0
          · subst h0
            have hne : k ≠ k0 := fun e => by subst e; omega
            go_wp2_with fail
            have e3 : ((k : Int) + 1) % 5 = (((k + 1) % 5 : Nat) : Int) := by omega
            rw [e3]
            refine ⟨⟨(k + 1) % 5, by omega, rfl, trivial⟩, ?_⟩
            simp only [RowKit.intOf, Int.toNat_natCast]
            omega
          · have g7 : ¬ (m : Int) = 0 := by omega
            go_wp2_with fail
            go_meet
            exact ⟨rfl, k, hk5, rfl, show c k < (wsF (tkF l) N k).length by omega⟩
      case rest =>
      obtain ⟨ew, k, hk5, rfl, hck⟩ := hcut
      rw [ew]
      clear ew wc hc0 hk0 k0 hk1 k1
      replace hck : c k < (wsF (tkF l) N k).length := hck
      have HK : Hid (k < 5 ∧ c k < (wsF (tkF l) N k).length) := show _ ∧ _ from ⟨hk5, hck⟩
      obtain ⟨W, hW⟩ : ∃ W, (wsF (tkF l) N k)[c k]? = some W := ⟨_, List.getElem?_eq_getElem hck⟩
      obtain ⟨q, qc, c1, c2, c3, c4⟩ := RS.out k hk5
      obtain ⟨m, hm9⟩ : ∃ m, ((wsF (tkF l) N k).drop (c k)).length = m := ⟨_, rfl⟩
      have hm8 : 1 ≤ m ∧ m ≤ 100 := by
        have : (wsF (tkF l) N k).length ≤ 100 := HL.out k
        have e1 : ((wsF (tkF l) N k).drop (c k)).length = (wsF (tkF l) N k).length - c k := List.length_drop
        omega
      have hmW : (vw ((wsF (tkF l) N k).drop (c k)))[0]? = some (.int .u64 (W : Int)) := by
        unfold vw
        rw [List.getElem?_map, List.getElem?_drop, Nat.add_zero, hW]
        rfl
      have hW64 : W < 18446744073709551616 := by
        have hmem := List.mem_of_getElem? hW
        unfold wsF at hmem
        by_cases hkN : k < N
        · rw [if_pos hkN] at hmem; exact ws_lt _ _ hmem
        · rw [if_neg hkN] at hmem; cases hmem
      simp only at c1 c2 c3
      rw [hm9] at c1 c2
      obtain ⟨g, o, rfl, hg, hc⟩ := c3 0 _ hmW
      rw [Nat.add_zero] at hc
      have d1 := ((RR.out.at (k := wB) (cs := wcs) (t := 31) (by simp)).cell k).trans c1
      obtain ⟨D', e1, e2, C2⟩ := RC.out.step HF.out (n := nb9) hk5 hW
      have CT := RR.out.nx.take (p := k) (l := 0) (W := W) hk5 (show (0 : Int) < dl by have := FT.out.l1; simp only at this; omega) (show dl ≤ 8 by have := FT.out.l2; simp only at this; omega) hW64 (RC.out.small hk5 (by have : (wsF (tkF l) N k).length ≤ 100 := HL.out k; omega))
      rw [e1, e2, show ((0 : Nat) : Int) = 0 from rfl] at CT
      have HC2 : Hid (Cnt (tkF l) N (bump c k) (updS js (k * 8 + 0) (takeR (js (k * 8 + 0)) W).1) D') := C2
      have HM : Hid (((wsF (tkF l) N k).drop (c k)).length = m ∧ 1 ≤ m ∧ m ≤ 100 ∧ m ≤ qc) := show _ ∧ _ ∧ _ ∧ _ from ⟨hm9, hm8.1, hm8.2, c2⟩
      have HC3 : Hid (Rd wr (some ⟨g, o, none⟩) (vw ((wsF (tkF l) N k).drop (c k)))) := c3
      have HC4 : Hid (E g) := c4 _ rfl
      have HC1 : Hid (wcs[k]? = some (.slice (some ⟨g, o, none⟩) m qc)) := c1
      have g5 : (0 : Int) ≤ (k : Int) := by omega
      have g6 : (k : Int) < 5 := by omega
      have g7 : (1 : Int) ≤ (m : Int) ∧ (m : Int) ≤ 100 := by omega
      obtain ⟨g7, g8⟩ := g7
      clear e1 e2 C2 hm8 hm9 hmW hW64 c1 c2 c3 c4 hck hW
      go_upto_region 31 with (go_at_call 10; with_reducible refine CT.mono ?_; rintro e v1 ⟨rfl, hnx, hkp⟩)
      clear CT d1 hc hg
      have hkO : ∀ z, E z → v1.heap[z]? = wr.heap[z]? := fun z hz => hkp.on z (Or.inr hz)
      have R1 : Hid (Rf w v1 b ib ⟨⟨dw, dh, dl, dd, dr, di, db, de, da⟩, 0, 0, 0⟩ (.slice none 0 0) jb (updS js (k * 8 + 0) (takeR (js (k * 8 + 0)) W).1) (bxC (tkF l) nb9 D') E [(wB, wcs, 31)]) := show _ from RR.out.kp hnx hkp
      have RS1 : Hid (Rws v1 wcs (fun k => (wsF (tkF l) N k).drop (c k)) E) := show _ from RS.out.mono (fun _ h => h) (fun z hz _ => hkO z hz) hkp.size
      have hg2 : Hid (Rd v1 (some ⟨g, o, none⟩) (vw ((wsF (tkF l) N k).drop (c k)))) := show _ from HC3.out.ikp hkp fun q hq => by cases hq; exact Or.inr HC4.out
      clear hnx hkp hkO RR RS HC3
      have d1 := ((R1.out.at (k := wB) (cs := wcs) (t := 31) (by simp)).cell k).trans HC1.out
      have f1 := (R1.out.at (k := wB) (cs := wcs) (t := 31) (by simp)).free k
      have g9 : (m : Int) ≤ (qc : Int) := by have := HM.out; omega
      have g10 : (i : Int) ≤ 500 := by have := HI.out; omega
      go_wp2_with fail
      have hl9 : ((wsF (tkF l) N k).drop (c k + 1)).length = m - 1 := by
        have h1 : ((wsF (tkF l) N k).drop (c k + 1)).length = (wsF (tkF l) N k).length - (c k + 1) := List.length_drop
        have h2 : ((wsF (tkF l) N k).drop (c k)).length = (wsF (tkF l) N k).length - c k := List.length_drop
        have := HM.out
        omega
      have hkey : ∃ a9, (if qc = 1 then some (⟨g, o, none⟩ : Addr) else some ⟨g, o + 1, none⟩) = a9 ∧ Rd v1 a9 (vw ((wsF (tkF l) N k).drop (c k + 1))) ∧ ∀ q, a9 = some q → E q.block := by
        by_cases h1 : qc = 1
        · rw [if_pos h1]
          refine ⟨_, rfl, fun j v hj => ?_, fun q hq => by cases hq; exact HC4.out⟩
          have := (List.getElem?_eq_some_iff.1 hj).1
          rw [vw_len] at this
          have := HM.out
          omega
        · rw [if_neg h1]
          refine ⟨_, rfl, fun j v hj => ?_, fun q hq => by cases hq; exact HC4.out⟩
          have e1 : vw ((wsF (tkF l) N k).drop (c k + 1)) = (vw ((wsF (tkF l) N k).drop (c k))).drop 1 := by
            rw [← vw_drop, List.drop_drop]
          rw [e1, List.getElem?_drop] at hj
          obtain ⟨g', o', e2, hg', hc'⟩ := hg2.out (1 + j) v hj
          cases e2
          exact ⟨_, _, rfl, hg', by rw [Nat.add_assoc]; exact hc'⟩
      obtain ⟨a9, ea9, ra9, ba9⟩ := hkey
      rw [ea9, ← hl9]
      have R2 := R1.out.set (fun x hx => by cases hx) k (.slice a9 ((wsF (tkF l) N k).drop (c k + 1)).length (qc - 1))
      have RS2 := RS1.out.set HK.out.1 (l := (wsF (tkF l) N k).drop (c k + 1)) (a := a9) (cap := qc - 1) (by have := HM.out; omega) ra9 ba9
      have e0 : (fun j => if j = k then (wsF (tkF l) N k).drop (c k + 1) else (fun k => (wsF (tkF l) N k).drop (c k)) j) = fun j => (wsF (tkF l) N j).drop (bump c k j) := by
        funext j
        unfold bump
        by_cases e1 : j = k
        · subst e1; rw [if_pos rfl, if_pos rfl]
        · rw [if_neg e1, if_neg e1]
      rw [e0] at RS2
      have RS3 := RS2.mono (y' := v1.setCell ⟨wB, k, none⟩ (.slice a9 ((wsF (tkF l) N k).drop (c k + 1)).length (qc - 1))) (fun _ h => h) (fun z hz _ => Below.heap_setCell _ ⟨wB, k, none⟩ _ z (by have := RL.out z hz; show z ≠ wB; omega)) (by simp)
      refine ⟨⟨i + 1, bump c k, _, D', _, by omega, by go_num, R2, HC2.out, RS3, (tot_bump c HK.out.1).trans (by rw [RT.out])⟩, ?_⟩
      simp [RowKit.intOf]
      omega
  case rest =>
  clear RR RS
  obtain ⟨js, D, wcs, rf, hD, hnd, hz⟩ := hcut
  have RR : Hid (Rf w wc b ib ⟨⟨dw, dh, dl, dd, dr, di, db, de, da⟩, 0, 0, 0⟩ (.slice none 0 0) jb js (bxC (tkF l) nb9 D) E [(wB, wcs, 31)]) := rf
  have HD : Hid ((∀ d, d ∈ D ↔ d < N) ∧ D.Nodup) := show _ ∧ _ from ⟨hD, hnd⟩
  have HZ : Hid (∀ k, k < 40 → (js k).b = false) := hz
  have hdl : D.length = N := nodup_len hD hnd
  have CW := RR.out.nx.waits
  have ew : (bxC (tkF l) nb9 D).W.length = N := by
    show (D.map (pkF (tkF l))).length = N
    rw [List.length_map]
    exact hdl
  rw [ew] at CW
  clear ew rf hD hnd hz hdl
  go_upto_region 32 with fail
  go_cut [17] from 107 to 109 (fun z wd => z = .int .i64 (N : Int) ∧ wd = wc)
  case first =>
    have hq := HN5.out
    by_cases hn5 : n ≤ 5
    · have e1 : Hid (n = N) := (show n = N by omega)
      have g1 : (n : Int) ≤ 5 := by omega
      go_wp2_with fail
      go_meet
      exact ⟨by rw [e1.out], rfl⟩
    · have e1 : Hid (N = 5) := (show N = 5 by omega)
      have g1 : ¬ (n : Int) ≤ 5 := by omega
      go_wp2_with fail
      go_meet
      exact ⟨by rw [e1.out]; rfl, rfl⟩
  case rest =>
  obtain ⟨rfl, ew⟩ := hcut
  rename_i wd
  rw [ew]
  clear ew
  clear RR
  go_wp2_with fail
  go_at_call 11
  with_reducible refine CW.mono ?_
  rintro e v8 ⟨rfl, hnx, hkp⟩
  have CB := hnx.begun fun k hk => HZ.out k hk.1
  have R1 : Hid (Nx w v8 b ib ⟨⟨dw, dh, dl, dd, dr, di, db, de, da⟩, 0, 0, 0⟩ (.slice none 0 0) jb js (bxC (tkF l) nb9 D) fun g => (∃ x ∈ [(wB, wcs, 31)], g = x.1) ∨ E g) := show _ from hnx
  clear CW hnx hkp
  go_upto_region 35 with (go_at_call 12; with_reducible refine CB.mono ?_; rintro e v9 ⟨rfl, b9⟩)
  have R2 : Hid (Nx w v9 b ib ⟨⟨dw, dh, dl, dd, dr, di, db, de, da⟩, 0, 0, 0⟩ (.slice none 0 0) jb js (bxD (tkF l) nb9 D 0) fun _ => False) := show _ from by
    rw [bxD_zero]
    exact (R1.out.next b9).less fun _ h => h.elim
  clear R1 CB b9
  go_wp2_with fail
  go_loopw [18] (fun z wr => ∃ i : Nat, i ≤ N ∧ z = .int .i64 (i : Int) ∧ Nx w wr b ib ⟨⟨dw, dh, dl, dd, dr, di, db, de, da⟩, 0, 0, 0⟩ (.slice none 0 0) jb js (bxD (tkF l) nb9 D i) fun _ => False) (fun z _ => N - (RowKit.intOf z).toNat)
  case atStart => exact ⟨0, Nat.zero_le _, rfl, R2.out⟩
  case round =>
    clear R2
    obtain ⟨i, hi, rfl, rf⟩ := hrel
    have RR : Hid (Nx w wr b ib ⟨⟨dw, dh, dl, dd, dr, di, db, de, da⟩, 0, 0, 0⟩ (.slice none 0 0) jb js (bxD (tkF l) nb9 D i) fun _ => False) := rf
    clear rf
    by_cases hlt : i < N
    case neg =>
      have e5 : Hid (i = N) := (show i = N by omega)
      have g1 : ¬ (i : Int) < (N : Int) := by omega
      have CW := RR.out.waits
      have ew : (bxD (tkF l) nb9 D i).W.length = 0 := by
        rw [e5.out, bxD_end nb9 fun d hd => (HD.out.1 d).1 hd]
        rfl
      rw [ew] at CW
      clear ew
      go_wp2_with (go_at_call 11; with_reducible refine CW.mono ?_; rintro e v1 ⟨rfl, hn1, hk1⟩)
      go_ret
      exact ⟨rfl, hn1.bl⟩
    have g1 : (i : Int) < (N : Int) := by omega
    have HI : Hid (i < N) := hlt
    obtain ⟨t1, t2, t3, t4, t5⟩ := bxD_tell HF.out HR1.out HD.out.1 HD.out.2 hlt
    have CT := RR.out.tell
    rw [t1] at CT
    clear t1
    go_upto_region 40 with (go_at_call 13; with_reducible refine CT.mono ?_; rintro e v1 ⟨rfl, hn1, hk1⟩)
    have CR := hn1.recv
    rw [t2, t3, t4] at CR
    have HP : Hid ((pkF (tkF l) i).s = (i : Int)) := show _ from (HF.out.pk HI.out).1
    have HNX : Hid ((bxD (tkF l) nb9 D (i + 1)).nx (i : Int) = 1) := t5
    generalize pkF (tkF l) i = p9 at *
    clear CT hn1 hk1 t2 t3 t4 t5 RR
    obtain ⟨p1, p2, p3, p4⟩ := p9
    simp only [I.pkv, I.pkc] at CR
    go_upto_region 41 with (go_at_call 14; with_reducible refine CR.mono ?_; rintro e v2 ⟨rfl, hn2, hk2⟩)
    clear CR hk2
    have hp1 := HP.out
    subst hp1
    have hB := Bk.new v2 #[.int .i64 (i : Int), .int .i64 p2, .int .i64 p3, .string p4] 46
    have hn3 := (hn2.alloc (.cells #[.int .i64 (i : Int), .int .i64 p2, .int .i64 p3, .string p4] 46)).less (O' := fun _ => False) fun _ h => h.elim
    generalize v2.alloc (.cells #[.int .i64 (i : Int), .int .i64 p2, .int .i64 p3, .string p4] 46) = v3 at *
    generalize v2.heap.size = g at *
    have CN := hn3.nextq (s := (i : Int)) (i64_wf (by have := HI.out; have := HN5.out; omega))
    rw [HNX.out] at CN
    have d0 := (hB.cell 0).trans rfl
    simp only [List.getElem?_toArray, List.getElem?_cons_zero] at d0
    clear hn2 hn3 hB
    have g11 : (0 : Int) ≤ (i : Int) ∧ (i : Int) ≤ 5 := by have := HI.out; have := HN5.out; omega
    obtain ⟨g11, g12⟩ := g11
    go_wp2_with (go_at_call 15; with_reducible refine CN.mono ?_; rintro e v4 ⟨rfl, hn4, hk4⟩)
    go_roundw
    case rel => exact ⟨i + 1, HI.out, by go_num, hn4⟩
    case measure => simp [RowKit.intOf]; omega
end Go.Proofs.Ytoejpngdkcnnhaa

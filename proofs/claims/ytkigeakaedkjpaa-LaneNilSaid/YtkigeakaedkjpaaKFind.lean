/-
  The program's lane: the Head that waits; a way is asked for, and found. (Written by gen_kfind.py.)
-/
import Derived.Test.YtkigeakaedkjpaaKCalls
import Derived.Defers
import Derived.Recover
import Derived.Shelf.Abstract
import Derived.StillTailTactics
namespace Go.Proofs.Ytkigeakaedkjpaa
open Go.RowKit

/-- Does a Head wait for its way? And which one. -/
def waitB (S : KS) : Bool := match S.ws with | [] => false | x :: _ => decide (S.ph = 0) && hdK x
def waitF (S : KS) : Fl := match S.ws with | [] => zf | x :: _ => if S.ph = 0 then (readR x).1 else zf
theorem find_cases (S : KS) (node P : Int) : (waitB S = false ∧ findK S node P = (S, false)) ∨ (waitB S = true ∧ S.ph = 0 ∧ (((waitF S).d = node ∧ findK S node P = ({ S with ph := 2, port := 0, lane := 0 }, true)) ∨ (¬ (waitF S).d = node ∧ (((1 ≤ P ∧ P ≤ 4) ∧ findK S node P = ({ S with ph := 1, port := P }, true)) ∨ (¬ (1 ≤ P ∧ P ≤ 4) ∧ findK S node P = (S, false)))))) := by
  unfold waitB waitF findK
  cases S.ws with
  | nil => exact Or.inl ⟨rfl, rfl⟩
  | cons x t =>
    simp only
    by_cases h : S.ph = 0 ∧ hdK x = true
    · rw [if_pos h, if_pos h.1]
      refine Or.inr ⟨by rw [h.2, h.1]; rfl, h.1, ?_⟩
      by_cases hd : (readR x).1.d = node
      · rw [if_pos hd]
        exact Or.inl ⟨hd, rfl⟩
      · rw [if_neg hd]
        refine Or.inr ⟨hd, ?_⟩
        by_cases hp : 1 ≤ P ∧ P ≤ 4
        · rw [if_pos hp]
          exact Or.inl ⟨hp, rfl⟩
        · rw [if_neg hp]
          exact Or.inr ⟨hp, rfl⟩
    · rw [if_neg h]
      refine Or.inl ⟨?_, rfl⟩
      by_cases h1 : S.ph = 0
      · have : ¬ hdK x = true := fun c => h ⟨h1, c⟩
        simp [this]
      · simp [h1]
theorem wait_of {S : KS} {x : Nat} {t : List Nat} (hw : S.ws = x :: t) (hp : S.ph = 0) : waitF S = (readR x).1 ∧ waitB S = (decide ((readR x).2 = 0) && decide ((readR x).1.k = 1)) := by
  have e1 : waitF S = if S.ph = 0 then (readR x).1 else zf := by unfold waitF; rw [hw]
  have e2 : waitB S = (decide (S.ph = 0) && hdK x) := by unfold waitB; rw [hw]
  rw [e1, e2, if_pos hp, hp, decide_eq_true (rfl : (0 : Int) = 0), Bool.true_and]
  exact ⟨rfl, by unfold hdK; rfl⟩
theorem wait_no {S : KS} (h : S.ws = [] ∨ ¬ S.ph = 0) : waitF S = zf ∧ waitB S = false := by
  unfold waitF waitB
  cases e : S.ws with
  | nil => exact ⟨rfl, rfl⟩
  | cons x t =>
    rw [e] at h
    have h1 : ¬ S.ph = 0 := h.elim (fun c => by cases c) id
    simp only
    rw [if_neg h1]
    exact ⟨rfl, by simp [h1]⟩
/-- The eight cells of a flit are stored in its block. -/
theorem Bk.eight {v : World} {k : Nat} {c0 c1 c2 c3 c4 c5 c6 c7 x0 x1 x2 x3 x4 x5 x6 x7 : Value} {t : TypeId} (h : Bk v k #[c0, c1, c2, c3, c4, c5, c6, c7] t) :
    Bk ((((((((v.setCell ⟨k, 0, none⟩ x0).setCell ⟨k, 1, none⟩ x1).setCell ⟨k, 2, none⟩ x2).setCell ⟨k, 3, none⟩ x3).setCell ⟨k, 4, none⟩ x4).setCell ⟨k, 5, none⟩ x5).setCell ⟨k, 6, none⟩ x6).setCell ⟨k, 7, none⟩ x7) k #[x0, x1, x2, x3, x4, x5, x6, x7] t := by
  have := (((((((h.set 0 x0).set 1 x1).set 2 x2).set 3 x3).set 4 x4).set 5 x5).set 6 x6).set 7 x7
  simpa using this
theorem below_eight_at {B : Nat} {w v : World} {k : Nat} {x0 x1 x2 x3 x4 x5 x6 x7 : Value} (h : Below B w v) (hk : B ≤ k) :
    Below B w ((((((((v.setCell ⟨k, 0, none⟩ x0).setCell ⟨k, 1, none⟩ x1).setCell ⟨k, 2, none⟩ x2).setCell ⟨k, 3, none⟩ x3).setCell ⟨k, 4, none⟩ x4).setCell ⟨k, 5, none⟩ x5).setCell ⟨k, 6, none⟩ x6).setCell ⟨k, 7, none⟩ x7) :=
  (((((((h.setCell hk _).setCell hk _).setCell hk _).setCell hk _).setCell hk _).setCell hk _).setCell hk _).setCell hk _
/-- A flit's cells, read. -/
theorem Bk.flit {v : World} {k : Nat} {c0 c1 c2 c3 c4 c5 c6 c7 : Value} {t : TypeId} (h : Bk v k #[c0, c1, c2, c3, c4, c5, c6, c7] t) :
    v.cell? ⟨k, 0, none⟩ = some c0 ∧ v.cell? ⟨k, 1, none⟩ = some c1 ∧ v.cell? ⟨k, 2, none⟩ = some c2 ∧ v.cell? ⟨k, 3, none⟩ = some c3 ∧ v.cell? ⟨k, 4, none⟩ = some c4 ∧ v.cell? ⟨k, 5, none⟩ = some c5 ∧ v.cell? ⟨k, 6, none⟩ = some c6 ∧ v.cell? ⟨k, 7, none⟩ = some c7 := by
  refine ⟨?_, ?_, ?_, ?_, ?_, ?_, ?_, ?_⟩ <;> (rw [h.cell]; rfl)
theorem Bk.frees {v : World} {k : Nat} {cs : Array Value} {t : TypeId} (h : Bk v k cs t) :
    v.frozen? ⟨k, 0, none⟩ = false ∧ v.frozen? ⟨k, 1, none⟩ = false ∧ v.frozen? ⟨k, 2, none⟩ = false ∧ v.frozen? ⟨k, 3, none⟩ = false ∧ v.frozen? ⟨k, 4, none⟩ = false ∧ v.frozen? ⟨k, 5, none⟩ = false ∧ v.frozen? ⟨k, 6, none⟩ = false ∧ v.frozen? ⟨k, 7, none⟩ = false :=
  ⟨h.free 0, h.free 1, h.free 2, h.free 3, h.free 4, h.free 5, h.free 6, h.free 7⟩

theorem goes_any {w : World} {b : Nat} {p : Value} {x0 x1 x2 : Int} {x3 : Bool} (h : Bk w b #[p, .int .i64 x0, .int .i64 x1, .int .i64 x2, .bool x3] 71) (ph port : Int) :
    Calls Try.prog 32 #[.pointer (some ⟨b, 0, none⟩), .int .i64 ph, .int .i64 port] w fun e w' => e = .returned (.tuple #[]) ∧ Bk w' b #[p, .int .i64 ph, .int .i64 port, .int .i64 0, .bool x3] 71 ∧ On b w w' := by
  have c1 := h.cell 1
  have c2 := h.cell 2
  have c3 := h.cell 3
  have z1 := h.free 1
  have z2 := h.free 2
  have z3 := h.free 3
  simp only [List.getElem?_toArray, List.getElem?_cons_zero, List.getElem?_cons_succ] at c1 c2 c3
  have X : Hid (Bk (((w.setCell ⟨b, 1, none⟩ (.int .i64 ph)).setCell ⟨b, 2, none⟩ (.int .i64 port)).setCell ⟨b, 3, none⟩ (.int .i64 0)) b #[p, .int .i64 ph, .int .i64 port, .int .i64 0, .bool x3] 71) := show Bk _ _ _ _ from by
    have := ((h.set 1 (.int .i64 ph)).set 2 (.int .i64 port)).set 3 (.int .i64 0)
    simpa using this
  have O : Hid (On b w (((w.setCell ⟨b, 1, none⟩ (.int .i64 ph)).setCell ⟨b, 2, none⟩ (.int .i64 port)).setCell ⟨b, 3, none⟩ (.int .i64 0))) := (((On.refl b w).set 1 _).set 2 _).set 3 _
  clear h
  go_enter Try.func32, Try.ntmps32
  go_wp2
  refine bodyPost_end (results_none rfl _ _ _) rfl ⟨rfl, X.out, O.out⟩


section
variable {w : World} {b : Nat} {S : KS} {F : Nat → Prop}
/-- The lane's value and an empty flit, in two new blocks. -/
theorem wait_world (w : World) (cs : Array Value) : Below w.heap.size w ((w.alloc (.cells cs 69)).alloc (.cells #[.int .i64 0, .int .i64 0, .int .i64 0, .int .i64 0, .int .i64 0, .bool false, .bool false, .string ⟨#[]⟩] 49)) ∧ Bk ((w.alloc (.cells cs 69)).alloc (.cells #[.int .i64 0, .int .i64 0, .int .i64 0, .int .i64 0, .int .i64 0, .bool false, .bool false, .string ⟨#[]⟩] 49)) w.heap.size cs 69 ∧ Bk ((w.alloc (.cells cs 69)).alloc (.cells #[.int .i64 0, .int .i64 0, .int .i64 0, .int .i64 0, .int .i64 0, .bool false, .bool false, .string ⟨#[]⟩] 49)) (w.heap.size + 1) #[.int .i64 0, .int .i64 0, .int .i64 0, .int .i64 0, .int .i64 0, .bool false, .bool false, .string ⟨#[]⟩] 49 := by
  refine ⟨((Below.refl _ _).alloc (Nat.le_refl _) _).alloc (by simp) _, (Bk.new w _ _).alloc _, ?_⟩
  have := Bk.new (w.alloc (.cells cs 69)) #[.int .i64 0, .int .i64 0, .int .i64 0, .int .i64 0, .int .i64 0, .bool false, .bool false, .string ⟨#[]⟩] 49
  simpa using this
set_option maxRecDepth 100000 in
set_option maxHeartbeats 4000000 in
theorem waiting_any {r pr mr : Nat} {sr : RU.RingSt} (ok : KOk S) (h : KnAt w b S r pr mr sr) : Calls Try.prog 31 #[.agg (stc S r)] w fun e w' => e = .returned (.tuple #[flv (waitF S), .bool (waitB S)]) ∧ Below w.heap.size w w' := by
  obtain ⟨W1, W2, W3⟩ := wait_world w (stc S r)
  have H1 := h.next W1
  have PK := RU.ring_peek H1.rg
  have NB : Hid (Below w.heap.size w ((w.alloc (.cells (stc S r) 69)).alloc (.cells #[.int .i64 0, .int .i64 0, .int .i64 0, .int .i64 0, .int .i64 0, .bool false, .bool false, .string ⟨#[]⟩] 49))) := W1
  have N2 : Hid (Bk ((w.alloc (.cells (stc S r) 69)).alloc (.cells #[.int .i64 0, .int .i64 0, .int .i64 0, .int .i64 0, .int .i64 0, .bool false, .bool false, .string ⟨#[]⟩] 49)) w.heap.size (stc S r) 69) := W2
  have N3 : Hid (Bk ((w.alloc (.cells (stc S r) 69)).alloc (.cells #[.int .i64 0, .int .i64 0, .int .i64 0, .int .i64 0, .int .i64 0, .bool false, .bool false, .string ⟨#[]⟩] 49)) (w.heap.size + 1) #[.int .i64 0, .int .i64 0, .int .i64 0, .int .i64 0, .int .i64 0, .bool false, .bool false, .string ⟨#[]⟩] 49) := W3
  have hxs := h.xs
  have hwi := ok.wi
  clear W1 W2 W3 H1 h ok
  simp only [stc] at *
  by_cases hno : S.ws = [] ∨ ¬ S.ph = 0
  · obtain ⟨e1, e2⟩ := wait_no hno
    rw [e1, e2]
    obtain ⟨PV, hPV⟩ : ∃ x, RU.peekV sr = x := ⟨_, rfl⟩
    obtain ⟨PE, hPE⟩ : ∃ x, RU.peekE sr = x := ⟨_, rfl⟩
    rw [hPV, hPE] at PK
    have HT : Hid (((S.ph != 0) = true) ∨ ((S.ph != 0) = false ∧ (PE != 0) = true)) := show _ ∨ _ from by
      by_cases hp : S.ph = 0
      · have hw : S.ws = [] := hno.elim id fun c => absurd hp c
        refine Or.inr ⟨by rw [hp]; rfl, ?_⟩
        rw [← hPE]
        unfold RU.peekE
        rw [hxs, hw, show wz [] = [] from rfl, if_pos rfl]
        rfl
      · exact Or.inl (by simpa using hp)
    clear hno e1 e2 hPV hPE hxs hwi
    generalize S.ph = sp at *
    generalize S.port = so at *
    generalize S.lane = sl at *
    generalize S.cp = sc at *
    rcases HT.out with t1 | ⟨t1, t2⟩
    · clear HT
      go_enter Try.func31, Try.ntmps31
      go_upto_region 1 with fail
      generalize (w.alloc (.cells #[.pointer (some ⟨r, 0, none⟩), .int .i64 sp, .int .i64 so, .int .i64 sl, .bool sc] 69)).alloc (.cells #[.int .i64 0, .int .i64 0, .int .i64 0, .int .i64 0, .int .i64 0, .bool false, .bool false, .string ⟨#[]⟩] 49) = v at *
      obtain ⟨nb, hnb⟩ : ∃ x, w.heap.size = x := ⟨_, rfl⟩
      obtain ⟨rb, hrb⟩ : ∃ x, w.heap.size + 1 = x := ⟨_, rfl⟩
      have HB : Hid (w.heap.size = nb ∧ nb + 1 = rb) := ⟨hnb, by rw [← hrb, hnb]⟩
      rw [hrb] at N3 ⊢
      rw [hnb] at NB N2 ⊢
      clear hnb hrb
      have c0 := N2.out.cell 0
      simp only [List.getElem?_toArray, List.getElem?_cons_zero] at c0
      go_upto_region 2 with (go_at_call 43; with_reducible refine PK.mono ?_; rintro e w1 ⟨rfl, m, rfl⟩)
      have M2 : Bk (v.drewN m) nb #[.pointer (some ⟨r, 0, none⟩), .int .i64 sp, .int .i64 so, .int .i64 sl, .bool sc] 69 := N2.out.drewN m
      have M3 : Bk (v.drewN m) rb #[.int .i64 0, .int .i64 0, .int .i64 0, .int .i64 0, .int .i64 0, .bool false, .bool false, .string ⟨#[]⟩] 49 := N3.out.drewN m
      have MB : Hid (Below nb w (v.drewN m)) := dn NB.out m
      clear PK N2 N3 NB c0
      generalize v.drewN m = u at *
      have c1 := M2.cell 1
      simp only [List.getElem?_toArray, List.getElem?_cons_zero, List.getElem?_cons_succ] at c1
      obtain ⟨d0, d1, d2, d3, d4, d5, d6, d7⟩ := M3.flit
      obtain ⟨z0, z1, z2, z3, z4, z5, z6, z7⟩ := M3.frees
      obtain ⟨y0, y1, y2, y3, y4, y5, y6, y7⟩ := (M3.eight (x0 := .int .i64 0) (x1 := .int .i64 0) (x2 := .int .i64 0) (x3 := .int .i64 0) (x4 := .int .i64 0) (x5 := .bool false) (x6 := .bool false) (x7 := .string ⟨#[]⟩)).flit
      clear M2 M3
      go_wp2
      refine bodyPost_ret (v := .tuple #[.agg #[.int .i64 0, .int .i64 0, .int .i64 0, .int .i64 0, .int .i64 0, .bool false, .bool false, .string ⟨#[]⟩], .bool false]) ?_ rfl ?_
      · simp [results, Try.results31, go_sem, y0, y1, y2, y3, y4, y5, y6, y7]
      · exact ⟨rfl, by rw [HB.out.1]; exact below_eight_at MB.out (by have := HB.out.2; omega)⟩
    · clear HT
      go_enter Try.func31, Try.ntmps31
      go_upto_region 1 with fail
      generalize (w.alloc (.cells #[.pointer (some ⟨r, 0, none⟩), .int .i64 sp, .int .i64 so, .int .i64 sl, .bool sc] 69)).alloc (.cells #[.int .i64 0, .int .i64 0, .int .i64 0, .int .i64 0, .int .i64 0, .bool false, .bool false, .string ⟨#[]⟩] 49) = v at *
      obtain ⟨nb, hnb⟩ : ∃ x, w.heap.size = x := ⟨_, rfl⟩
      obtain ⟨rb, hrb⟩ : ∃ x, w.heap.size + 1 = x := ⟨_, rfl⟩
      have HB : Hid (w.heap.size = nb ∧ nb + 1 = rb) := ⟨hnb, by rw [← hrb, hnb]⟩
      rw [hrb] at N3 ⊢
      rw [hnb] at NB N2 ⊢
      clear hnb hrb
      have c0 := N2.out.cell 0
      simp only [List.getElem?_toArray, List.getElem?_cons_zero] at c0
      go_upto_region 2 with (go_at_call 43; with_reducible refine PK.mono ?_; rintro e w1 ⟨rfl, m, rfl⟩)
      have M2 : Bk (v.drewN m) nb #[.pointer (some ⟨r, 0, none⟩), .int .i64 sp, .int .i64 so, .int .i64 sl, .bool sc] 69 := N2.out.drewN m
      have M3 : Bk (v.drewN m) rb #[.int .i64 0, .int .i64 0, .int .i64 0, .int .i64 0, .int .i64 0, .bool false, .bool false, .string ⟨#[]⟩] 49 := N3.out.drewN m
      have MB : Hid (Below nb w (v.drewN m)) := dn NB.out m
      clear PK N2 N3 NB c0
      generalize v.drewN m = u at *
      have c1 := M2.cell 1
      simp only [List.getElem?_toArray, List.getElem?_cons_zero, List.getElem?_cons_succ] at c1
      obtain ⟨d0, d1, d2, d3, d4, d5, d6, d7⟩ := M3.flit
      obtain ⟨z0, z1, z2, z3, z4, z5, z6, z7⟩ := M3.frees
      obtain ⟨y0, y1, y2, y3, y4, y5, y6, y7⟩ := (M3.eight (x0 := .int .i64 0) (x1 := .int .i64 0) (x2 := .int .i64 0) (x3 := .int .i64 0) (x4 := .int .i64 0) (x5 := .bool false) (x6 := .bool false) (x7 := .string ⟨#[]⟩)).flit
      clear M2 M3
      go_wp2
      refine bodyPost_ret (v := .tuple #[.agg #[.int .i64 0, .int .i64 0, .int .i64 0, .int .i64 0, .int .i64 0, .bool false, .bool false, .string ⟨#[]⟩], .bool false]) ?_ rfl ?_
      · simp [results, Try.results31, go_sem, y0, y1, y2, y3, y4, y5, y6, y7]
      · exact ⟨rfl, by rw [HB.out.1]; exact below_eight_at MB.out (by have := HB.out.2; omega)⟩
  · obtain ⟨x, t, hw⟩ : ∃ x t, S.ws = x :: t := by
      cases e : S.ws with
      | nil => exact absurd (Or.inl e) hno
      | cons x t => exact ⟨x, t, rfl⟩
    have hp : S.ph = 0 := Decidable.of_not_not fun c => hno (Or.inr c)
    obtain ⟨e1, e2⟩ := wait_of hw hp
    have hx : x < 18446744073709551616 := hwi x (by rw [hw]; exact List.mem_cons_self)
    have FR := fun v => fread_any x hx v
    rw [e1, e2]
    obtain ⟨f, hf⟩ : ∃ f, (readR x).1 = f := ⟨_, rfl⟩
    obtain ⟨er, her⟩ : ∃ e, (readR x).2 = e := ⟨_, rfl⟩
    rw [hf, her]
    simp only [hf, her] at FR
    have k1 : RU.peekV sr = (x : Int) := by unfold RU.peekV; rw [hxs, hw]; rfl
    have k2 : RU.peekE sr = 0 := by unfold RU.peekE; rw [hxs, hw, if_neg (by simp [wz])]
    rw [k1, k2] at PK
    rw [hp] at PK N2 N3 NB ⊢
    clear k1 k2 hf her e1 e2 hwi hxs hno hp hw hx
    generalize S.port = so at *
    generalize S.lane = sl at *
    generalize S.cp = sc at *
    generalize (x : Int) = X at *
    obtain ⟨fk, fs, fd, fq, fl, fm, fc, fx⟩ := f
    simp only [flv, flc] at *
    have HT : Hid (((er == 0) = false ∧ (decide (er = 0) && decide (fk = 1)) = false) ∨ ((er == 0) = true ∧ (((fk == 1) = true ∧ (decide (er = 0) && decide (fk = 1)) = true) ∨ ((fk == 1) = false ∧ (decide (er = 0) && decide (fk = 1)) = false)))) := show _ ∨ _ from by
      by_cases a : er = 0
      · by_cases c : fk = 1
        · exact Or.inr ⟨by simpa using a, Or.inl ⟨by simpa using c, by simp [a, c]⟩⟩
        · exact Or.inr ⟨by simpa using a, Or.inr ⟨by simpa using c, by simp [c]⟩⟩
      · exact Or.inl ⟨by simpa using a, by simp [a]⟩
    obtain ⟨G, hG⟩ : ∃ G, (decide (er = 0) && decide (fk = 1)) = G := ⟨_, rfl⟩
    rw [hG] at HT ⊢
    clear hG
    go_enter Try.func31, Try.ntmps31
    go_upto_region 1 with fail
    generalize (w.alloc (.cells #[.pointer (some ⟨r, 0, none⟩), .int .i64 0, .int .i64 so, .int .i64 sl, .bool sc] 69)).alloc (.cells #[.int .i64 0, .int .i64 0, .int .i64 0, .int .i64 0, .int .i64 0, .bool false, .bool false, .string ⟨#[]⟩] 49) = v at *
    obtain ⟨nb, hnb⟩ : ∃ x, w.heap.size = x := ⟨_, rfl⟩
    obtain ⟨rb, hrb⟩ : ∃ x, w.heap.size + 1 = x := ⟨_, rfl⟩
    have HB : Hid (w.heap.size = nb ∧ nb + 1 = rb) := ⟨hnb, by rw [← hrb, hnb]⟩
    rw [hrb] at N3 ⊢
    rw [hnb] at NB N2 ⊢
    clear hnb hrb
    have c0 := N2.out.cell 0
    simp only [List.getElem?_toArray, List.getElem?_cons_zero] at c0
    go_upto_region 2 with (go_at_call 43; with_reducible refine PK.mono ?_; rintro e w1 ⟨rfl, m, rfl⟩)
    have M2 : Bk (v.drewN m) nb #[.pointer (some ⟨r, 0, none⟩), .int .i64 0, .int .i64 so, .int .i64 sl, .bool sc] 69 := N2.out.drewN m
    have M3 : Hid (Bk (v.drewN m) rb #[.int .i64 0, .int .i64 0, .int .i64 0, .int .i64 0, .int .i64 0, .bool false, .bool false, .string ⟨#[]⟩] 49) := N3.out.drewN m
    have MB : Hid (Below nb w (v.drewN m)) := dn NB.out m
    clear PK N2 N3 NB c0
    generalize v.drewN m = u at *
    have c1 := M2.cell 1
    simp only [List.getElem?_toArray, List.getElem?_cons_zero, List.getElem?_cons_succ] at c1
    have FU := FR u
    clear FR M2
    go_upto_region 5 with (go_at_call 48; with_reducible refine FU.mono ?_; rintro e w2 ⟨rfl, hb2⟩)
    have L2 : rb < w2.heap.size := Nat.lt_of_lt_of_le M3.out.lt hb2.size
    have K3 : Hid (Bk (w2.alloc (.cells #[.int .i64 fk, .int .i64 fs, .int .i64 fd, .int .i64 fq, .int .i64 fl, .bool fm, .bool fc, .string fx] 49)) rb #[.int .i64 0, .int .i64 0, .int .i64 0, .int .i64 0, .int .i64 0, .bool false, .bool false, .string ⟨#[]⟩] 49) := (M3.out.next hb2).alloc _
    have K4 : Hid (Bk (w2.alloc (.cells #[.int .i64 fk, .int .i64 fs, .int .i64 fd, .int .i64 fq, .int .i64 fl, .bool fm, .bool fc, .string fx] 49)) w2.heap.size #[.int .i64 fk, .int .i64 fs, .int .i64 fd, .int .i64 fq, .int .i64 fl, .bool fm, .bool fc, .string fx] 49) := Bk.new w2 _ _
    have KB : Hid (Below nb w (w2.alloc (.cells #[.int .i64 fk, .int .i64 fs, .int .i64 fd, .int .i64 fq, .int .i64 fl, .bool fm, .bool fc, .string fx] 49))) := (MB.out.trans (hb2.mono (by have := M3.out.lt; have := HB.out.2; omega))).alloc (by have := HB.out.2; omega) _
    have K2 : rb < w2.heap.size := L2
    clear L2 M3 MB c1 hb2 FU
    generalize w2.alloc (.cells #[.int .i64 fk, .int .i64 fs, .int .i64 fd, .int .i64 fq, .int .i64 fl, .bool fm, .bool fc, .string fx] 49) = wx at *
    generalize w2.heap.size = kf at *
    have hne : ¬ rb = kf := by omega
    have hne2 : ¬ kf = rb := by omega
    obtain ⟨d0, d1, d2, d3, d4, d5, d6, d7⟩ := K4.out.flit
    obtain ⟨r0, r1, r2, r3, r4, r5, r6, r7⟩ := K3.out.flit
    obtain ⟨z0, z1, z2, z3, z4, z5, z6, z7⟩ := K3.out.frees
    obtain ⟨y0, y1, y2, y3, y4, y5, y6, y7⟩ := (K3.out.eight (x0 := .int .i64 fk) (x1 := .int .i64 fs) (x2 := .int .i64 fd) (x3 := .int .i64 fq) (x4 := .int .i64 fl) (x5 := .bool fm) (x6 := .bool fc) (x7 := .string fx)).flit
    have HD : Hid (rb < kf) := K2
    clear K2 K3 K4
    rcases HT.out with ⟨t1, t3⟩ | ⟨t1, ⟨t2, t3⟩ | ⟨t2, t3⟩⟩
    · clear HT
      subst t3
      go_region
      go_wp2
      refine bodyPost_ret (v := .tuple #[.agg #[.int .i64 fk, .int .i64 fs, .int .i64 fd, .int .i64 fq, .int .i64 fl, .bool fm, .bool fc, .string fx], .bool false]) ?_ rfl ?_
      · simp [results, Try.results31, go_sem, y0, y1, y2, y3, y4, y5, y6, y7]
      · exact ⟨rfl, by rw [HB.out.1]; exact (below_eight_at KB.out (by have := HB.out.2; omega)).drew⟩
    · clear HT
      subst t3
      go_region
      go_wp2
      refine bodyPost_ret (v := .tuple #[.agg #[.int .i64 fk, .int .i64 fs, .int .i64 fd, .int .i64 fq, .int .i64 fl, .bool fm, .bool fc, .string fx], .bool true]) ?_ rfl ?_
      · simp [results, Try.results31, go_sem, y0, y1, y2, y3, y4, y5, y6, y7]
      · exact ⟨rfl, by rw [HB.out.1]; exact (below_eight_at KB.out (by have := HB.out.2; omega)).drew⟩
    · clear HT
      subst t3
      go_region
      go_wp2
      refine bodyPost_ret (v := .tuple #[.agg #[.int .i64 fk, .int .i64 fs, .int .i64 fd, .int .i64 fq, .int .i64 fl, .bool fm, .bool fc, .string fx], .bool false]) ?_ rfl ?_
      · simp [results, Try.results31, go_sem, y0, y1, y2, y3, y4, y5, y6, y7]
      · exact ⟨rfl, by rw [HB.out.1]; exact (below_eight_at KB.out (by have := HB.out.2; omega)).drew⟩
end
theorem Way.next {w v : World} {g : Nat} {lb : Array Value} {P : Int} (h : Way w g lb P) (hb : Below w.heap.size w v) : Way v g lb P := ⟨h.1, fun f u hu => h.2 f u (hb.trans (hu.mono hb.size))⟩
/-- The deferred one of a call that returns: it finds nothing. -/
theorem ask_idle (p : Addr) (w : World) :
    CallsD Try.prog 49 #[.pointer (some p)] .returning w fun e u' w' => e = .returned (.tuple #[]) ∧ u' = .returning ∧ w' = w := by
  refine callsD_of_wpS Try.func49 rfl fun c₀ cs hu => ?_
  apply wpS_seq
  apply wpS_region
  simp [wpOpsS, go_sem, recoverD, hu, Try.ntmps49, Exit.thenS]
  refine wpS_cond (t := false) (by simp [Act.eval, Array.replicate]) ?_
  simp only [Bool.false_eq_true, if_false]
  refine wpS_of_wp (wp_skip ?_)
  cases c₀
  simp_all [bodyPostS, results, Try.results49]
set_option maxRecDepth 100000 in
set_option maxHeartbeats 2000000 in
theorem ask_any {w : World} {g : Nat} {lb : Array Value} {P : Int} (hg : Way w g lb P) (f : Fl) : Calls Try.prog 33 #[.func (.func g) #[] lb, flv f] w fun e w' => e = .returned (.int .i64 P) ∧ Below w.heap.size w w' := by
  obtain ⟨fk, fs, fd, fq, fl, fm, fc, fx⟩ := f
  have hmf : ∀ (fn : Fn) (first cap : Array Value) (w : World), (Instr.makeFunc fn first cap).run Try.prog w = .ok (.func fn first cap) w := fun _ _ _ _ => rfl
  have eg' : ∀ (args : Array Value) (w : World), (callFunc g args).run Try.prog w = .ok (.enter g args) w := hg.1
  have B0 : Below w.heap.size w ((w.alloc (.cells #[.int .i64 fk, .int .i64 fs, .int .i64 fd, .int .i64 fq, .int .i64 fl, .bool fm, .bool fc, .string fx] 49)).alloc (.cells #[.int .i64 0] 3)) := ((Below.refl _ _).alloc (Nat.le_refl _) _).alloc (by simp) _
  have HC := hg.2 ⟨fk, fs, fd, fq, fl, fm, fc, fx⟩ _ B0
  have N0 : Hid (Bk ((w.alloc (.cells #[.int .i64 fk, .int .i64 fs, .int .i64 fd, .int .i64 fq, .int .i64 fl, .bool fm, .bool fc, .string fx] 49)).alloc (.cells #[.int .i64 0] 3)) w.heap.size #[.int .i64 fk, .int .i64 fs, .int .i64 fd, .int .i64 fq, .int .i64 fl, .bool fm, .bool fc, .string fx] 49) := (Bk.new w _ _).alloc _
  have N1 : Hid (Bk ((w.alloc (.cells #[.int .i64 fk, .int .i64 fs, .int .i64 fd, .int .i64 fq, .int .i64 fl, .bool fm, .bool fc, .string fx] 49)).alloc (.cells #[.int .i64 0] 3)) (w.heap.size + 1) #[.int .i64 0] 3) := show Bk _ _ _ _ from by
    have := Bk.new (w.alloc (.cells #[.int .i64 fk, .int .i64 fs, .int .i64 fd, .int .i64 fq, .int .i64 fl, .bool fm, .bool fc, .string fx] 49)) #[.int .i64 0] 3
    simpa using this
  have HB0 : Hid (Below w.heap.size w ((w.alloc (.cells #[.int .i64 fk, .int .i64 fs, .int .i64 fd, .int .i64 fq, .int .i64 fl, .bool fm, .bool fc, .string fx] 49)).alloc (.cells #[.int .i64 0] 3))) := B0
  simp only [flv, flc] at *
  clear B0 hg
  go_enter_defers Try.func33, Try.ntmps33
  go_upto_region 1 with fail
  generalize (w.alloc (.cells #[.int .i64 fk, .int .i64 fs, .int .i64 fd, .int .i64 fq, .int .i64 fl, .bool fm, .bool fc, .string fx] 49)).alloc (.cells #[.int .i64 0] 3) = v at *
  obtain ⟨nb, hnb⟩ : ∃ x, w.heap.size = x := ⟨_, rfl⟩
  obtain ⟨rb, hrb⟩ : ∃ x, w.heap.size + 1 = x := ⟨_, rfl⟩
  have HB : Hid (w.heap.size = nb ∧ nb + 1 = rb) := ⟨hnb, by rw [← hrb, hnb]⟩
  rw [hrb] at N1 ⊢
  rw [hnb] at HB0 N0 ⊢
  clear hnb hrb
  obtain ⟨d0, d1, d2, d3, d4, d5, d6, d7⟩ := N0.out.flit
  go_wp2_with fail
  go_at_fn g
  refine HC.mono ?_
  rintro e w2 ⟨rfl, hb2⟩
  have M1 := N1.out.next hb2
  have c0 := M1.cell 0
  have z0 := M1.free 0
  simp only [List.getElem?_toArray, List.getElem?_cons_zero] at c0
  have BB : Hid (Below nb w (w2.setCell ⟨rb, 0, none⟩ (.int .i64 P))) := (HB0.out.trans (hb2.mono (by have := N0.out.lt; omega))).setCell (by have := HB.out.2; show nb ≤ rb; omega) _
  have Y := (M1.set 0 (.int .i64 P)).cell 0
  simp at Y
  clear N0 N1 M1 HC hb2 d0 d1 d2 d3 d4 d5 d6 d7
  go_wp2
  refine leaves_cons (f := 49) (args := #[.pointer (some ⟨rb, 0, none⟩)]) (by simp) (by simp [go_sem]) ?_
  refine (ask_idle ⟨rb, 0, none⟩ _).mono ?_
  rintro e u' w'' ⟨rfl, rfl, rfl⟩
  simp [Leaves, settle, results, Try.results33, go_sem, Y]
  rw [HB.out.1]
  exact BB.out
theorem KOk.home {S : KS} (h : KOk S) : KOk { S with ph := 2, port := 0, lane := 0 } := ⟨h.r1, h.r64, h.wl, h.wi, Or.inr (Or.inr rfl)⟩
theorem KOk.away {S : KS} (h : KOk S) (P : Int) : KOk { S with ph := 1, port := P } := ⟨h.r1, h.r64, h.wl, h.wi, Or.inr (Or.inl rfl)⟩
set_option maxRecDepth 100000 in
set_option maxHeartbeats 4000000 in
theorem lane_find {w : World} {b : Nat} {S : KS} {F : Nat → Prop} (h : Kn w b S F) (node P : Int) (g : Nat) (lb : Array Value) (hg : Way w g lb P) : Calls Try.prog 13 #[.pointer (some ⟨b, 0, none⟩), .int .i64 node, .func (.func g) #[] lb] w fun e w' => ∃ F', e = .returned (.bool (findK S node P).2) ∧ Kn w' b (findK S node P).1 F' ∧ Gr F w w' F' := by
  obtain ⟨ok, r, pr, mr, sr, hk, rfl⟩ := h
  have LC := look_any hk
  have WC : ∀ v : World, KnAt v b S r pr mr sr → Calls Try.prog 31 #[.agg (stc S r)] v fun e w' => e = .returned (.tuple #[flv (waitF S), .bool (waitB S)]) ∧ Below v.heap.size v w' := fun v hv => waiting_any ok hv
  have HK : Hid (KnAt w b S r pr mr sr) := hk
  have OK : Hid (KOk S) := ok
  have HC := find_cases S node P
  have HA : Hid (∀ (v : World) (f : Fl), Below w.heap.size w v → Calls Try.prog 33 #[.func (.func g) #[] lb, flv f] v fun e w' => e = .returned (.int .i64 P) ∧ Below v.heap.size v w') := show _ from fun v f hb => ask_any (hg.next hb) f
  obtain ⟨f, hf⟩ : ∃ f, waitF S = f := ⟨_, rfl⟩
  rw [hf] at HC
  simp only [hf] at WC
  clear hk ok hg hf
  rcases HC with ⟨h1, h2⟩ | ⟨h1, hp, ⟨h2, h3⟩ | ⟨h2, ⟨h3, h4⟩ | ⟨h3, h4⟩⟩⟩
  · rw [h2]
    simp only [h1] at WC
    clear h1 h2
    obtain ⟨fk, fs, fd, fq, fl, fm, fc, fx⟩ := f
    simp only [flv, flc, stc] at *
    have WX : Hid _ := WC
    clear WC
    go_enter Try.func13, Try.ntmps13
    go_wp2_with fail
    go_at_call 29
    with_reducible refine LC.mono ?_
    rintro e w1 ⟨rfl, hb1⟩
    have WW := WX.out w1 (HK.out.next hb1)
    have B1 : Hid (Below w.heap.size w w1) := hb1
    clear LC WX hb1
    go_upto_region 2 with (go_at_call 31; with_reducible refine WW.mono ?_; rintro e w2 ⟨rfl, hb2⟩)
    have B2 : Hid (Below w.heap.size w (w2.alloc (.cells #[.int .i64 fk, .int .i64 fs, .int .i64 fd, .int .i64 fq, .int .i64 fl, .bool fm, .bool fc, .string fx] 49))) := (B1.out.trans (hb2.mono B1.out.size)).alloc (by have := B1.out.size; have := hb2.size; omega) _
    have N2 : Hid (Bk (w2.alloc (.cells #[.int .i64 fk, .int .i64 fs, .int .i64 fd, .int .i64 fq, .int .i64 fl, .bool fm, .bool fc, .string fx] 49)) w2.heap.size #[.int .i64 fk, .int .i64 fs, .int .i64 fd, .int .i64 fq, .int .i64 fl, .bool fm, .bool fc, .string fx] 49) := Bk.new _ _ _
    have K2 : Hid (KnAt (w2.alloc (.cells #[.int .i64 fk, .int .i64 fs, .int .i64 fd, .int .i64 fq, .int .i64 fl, .bool fm, .bool fc, .string fx] 49)) b S r pr mr sr) := HK.out.next B2.out
    clear WW hb2 B1
    generalize w2.alloc (.cells #[.int .i64 fk, .int .i64 fs, .int .i64 fd, .int .i64 fq, .int .i64 fl, .bool fm, .bool fc, .string fx] 49) = v at *
    generalize w2.heap.size = kf at *
    go_wp2
    go_ret
    exact ⟨_, rfl, ⟨OK.out, r, pr, mr, sr, K2.out, rfl⟩, Gr.of B2.out⟩
  · rw [h3]
    simp only [h1] at WC
    have HP : Hid (S.ph = 0) := hp
    subst h2
    clear h1 h3 hp
    obtain ⟨fk, fs, fd, fq, fl, fm, fc, fx⟩ := f
    simp only [flv, flc, stc] at *
    have WX : Hid _ := WC
    clear WC
    go_enter Try.func13, Try.ntmps13
    go_wp2_with fail
    go_at_call 29
    with_reducible refine LC.mono ?_
    rintro e w1 ⟨rfl, hb1⟩
    have WW := WX.out w1 (HK.out.next hb1)
    have B1 : Hid (Below w.heap.size w w1) := hb1
    clear LC WX hb1
    go_upto_region 2 with (go_at_call 31; with_reducible refine WW.mono ?_; rintro e w2 ⟨rfl, hb2⟩)
    have B2 : Hid (Below w.heap.size w (w2.alloc (.cells #[.int .i64 fk, .int .i64 fs, .int .i64 fd, .int .i64 fq, .int .i64 fl, .bool fm, .bool fc, .string fx] 49))) := (B1.out.trans (hb2.mono B1.out.size)).alloc (by have := B1.out.size; have := hb2.size; omega) _
    have N2 : Hid (Bk (w2.alloc (.cells #[.int .i64 fk, .int .i64 fs, .int .i64 fd, .int .i64 fq, .int .i64 fl, .bool fm, .bool fc, .string fx] 49)) w2.heap.size #[.int .i64 fk, .int .i64 fs, .int .i64 fd, .int .i64 fq, .int .i64 fl, .bool fm, .bool fc, .string fx] 49) := Bk.new _ _ _
    have K2 : Hid (KnAt (w2.alloc (.cells #[.int .i64 fk, .int .i64 fs, .int .i64 fd, .int .i64 fq, .int .i64 fl, .bool fm, .bool fc, .string fx] 49)) b S r pr mr sr) := HK.out.next B2.out
    clear WW hb2 B1
    generalize w2.alloc (.cells #[.int .i64 fk, .int .i64 fs, .int .i64 fd, .int .i64 fq, .int .i64 fl, .bool fm, .bool fc, .string fx] 49) = v at *
    generalize w2.heap.size = kf at *
    have d2 := N2.out.cell 2
    simp only [List.getElem?_toArray, List.getElem?_cons_zero, List.getElem?_cons_succ] at d2
    have GC := goes_any K2.out.blk 2 0
    go_wp2_with (go_at_call 32; with_reducible refine GC.mono ?_; rintro e w3 ⟨rfl, hb3, ho3⟩)
    go_ret
    exact ⟨_, rfl, ⟨OK.out.home, r, pr, mr, sr, K2.out.turn (S' := { S with ph := 2, port := 0, lane := 0 }) ho3 hb3 rfl rfl (fun c => absurd rfl c), rfl⟩, (ho3.gr (Or.inl rfl)).after B2.out⟩
  · rw [h4]
    simp only [h1] at WC
    have HP : Hid (S.ph = 0) := hp
    have h2b : (f.d == node) = false := by simpa using h2
    clear h1 h4 hp
    obtain ⟨fk, fs, fd, fq, fl, fm, fc, fx⟩ := f
    simp only [flv, flc, stc] at *
    have WX : Hid _ := WC
    clear WC
    go_enter Try.func13, Try.ntmps13
    go_wp2_with fail
    go_at_call 29
    with_reducible refine LC.mono ?_
    rintro e w1 ⟨rfl, hb1⟩
    have WW := WX.out w1 (HK.out.next hb1)
    have B1 : Hid (Below w.heap.size w w1) := hb1
    clear LC WX hb1
    go_upto_region 2 with (go_at_call 31; with_reducible refine WW.mono ?_; rintro e w2 ⟨rfl, hb2⟩)
    have B2 : Hid (Below w.heap.size w (w2.alloc (.cells #[.int .i64 fk, .int .i64 fs, .int .i64 fd, .int .i64 fq, .int .i64 fl, .bool fm, .bool fc, .string fx] 49))) := (B1.out.trans (hb2.mono B1.out.size)).alloc (by have := B1.out.size; have := hb2.size; omega) _
    have N2 : Hid (Bk (w2.alloc (.cells #[.int .i64 fk, .int .i64 fs, .int .i64 fd, .int .i64 fq, .int .i64 fl, .bool fm, .bool fc, .string fx] 49)) w2.heap.size #[.int .i64 fk, .int .i64 fs, .int .i64 fd, .int .i64 fq, .int .i64 fl, .bool fm, .bool fc, .string fx] 49) := Bk.new _ _ _
    have K2 : Hid (KnAt (w2.alloc (.cells #[.int .i64 fk, .int .i64 fs, .int .i64 fd, .int .i64 fq, .int .i64 fl, .bool fm, .bool fc, .string fx] 49)) b S r pr mr sr) := HK.out.next B2.out
    clear WW hb2 B1
    generalize w2.alloc (.cells #[.int .i64 fk, .int .i64 fs, .int .i64 fd, .int .i64 fq, .int .i64 fl, .bool fm, .bool fc, .string fx] 49) = v at *
    generalize w2.heap.size = kf at *
    have d0 := N2.out.cell 0
    have d1 := N2.out.cell 1
    have d2 := N2.out.cell 2
    have d3 := N2.out.cell 3
    have d4 := N2.out.cell 4
    have d5 := N2.out.cell 5
    have d6 := N2.out.cell 6
    have d7 := N2.out.cell 7
    simp only [List.getElem?_toArray, List.getElem?_cons_zero, List.getElem?_cons_succ] at d0 d1 d2 d3 d4 d5 d6 d7
    have AC := HA.out v ⟨fk, fs, fd, fq, fl, fm, fc, fx⟩ B2.out
    simp only at AC
    clear HA
    go_upto_region 8 with (go_at_call 33; with_reducible refine AC.mono ?_; rintro e w3 ⟨rfl, hb3⟩)
    have B3 : Hid (Below w.heap.size w w3) := B2.out.trans (hb3.mono B2.out.size)
    have K3 : Hid (KnAt w3 b S r pr mr sr) := K2.out.next hb3
    clear B2 N2 K2 AC hb3 d0 d1 d2 d3 d4 d5 d6 d7
    have p0 : ¬ P ≤ 0 := by omega
    have p1 : ¬ 5 ≤ P := by omega
    have q0 : decide (P ≤ 0) = false := by simpa using p0
    have q1 : decide (5 ≤ P) = false := by simpa using p1
    have GC := goes_any K3.out.blk 1 P
    go_wp2_with (go_at_call 32; with_reducible refine GC.mono ?_; rintro e w4 ⟨rfl, hb4, ho4⟩)
    go_ret
    have hl : S.lane = 0 := K3.out.lz (by rw [HP.out]; decide)
    refine ⟨_, rfl, ⟨OK.out.away P, r, pr, mr, sr, K3.out.turn (S' := { S with ph := 1, port := P }) ho4 ?_ rfl rfl (fun _ => hl), rfl⟩, (ho4.gr (Or.inl rfl)).after B3.out⟩
    simp only [stc, hl]
    exact hb4
  · rw [h4]
    simp only [h1] at WC
    have HP : Hid (S.ph = 0) := hp
    have h2b : (f.d == node) = false := by simpa using h2
    clear h1 h4 hp
    obtain ⟨fk, fs, fd, fq, fl, fm, fc, fx⟩ := f
    simp only [flv, flc, stc] at *
    have WX : Hid _ := WC
    clear WC
    go_enter Try.func13, Try.ntmps13
    go_wp2_with fail
    go_at_call 29
    with_reducible refine LC.mono ?_
    rintro e w1 ⟨rfl, hb1⟩
    have WW := WX.out w1 (HK.out.next hb1)
    have B1 : Hid (Below w.heap.size w w1) := hb1
    clear LC WX hb1
    go_upto_region 2 with (go_at_call 31; with_reducible refine WW.mono ?_; rintro e w2 ⟨rfl, hb2⟩)
    have B2 : Hid (Below w.heap.size w (w2.alloc (.cells #[.int .i64 fk, .int .i64 fs, .int .i64 fd, .int .i64 fq, .int .i64 fl, .bool fm, .bool fc, .string fx] 49))) := (B1.out.trans (hb2.mono B1.out.size)).alloc (by have := B1.out.size; have := hb2.size; omega) _
    have N2 : Hid (Bk (w2.alloc (.cells #[.int .i64 fk, .int .i64 fs, .int .i64 fd, .int .i64 fq, .int .i64 fl, .bool fm, .bool fc, .string fx] 49)) w2.heap.size #[.int .i64 fk, .int .i64 fs, .int .i64 fd, .int .i64 fq, .int .i64 fl, .bool fm, .bool fc, .string fx] 49) := Bk.new _ _ _
    have K2 : Hid (KnAt (w2.alloc (.cells #[.int .i64 fk, .int .i64 fs, .int .i64 fd, .int .i64 fq, .int .i64 fl, .bool fm, .bool fc, .string fx] 49)) b S r pr mr sr) := HK.out.next B2.out
    clear WW hb2 B1
    generalize w2.alloc (.cells #[.int .i64 fk, .int .i64 fs, .int .i64 fd, .int .i64 fq, .int .i64 fl, .bool fm, .bool fc, .string fx] 49) = v at *
    generalize w2.heap.size = kf at *
    have d0 := N2.out.cell 0
    have d1 := N2.out.cell 1
    have d2 := N2.out.cell 2
    have d3 := N2.out.cell 3
    have d4 := N2.out.cell 4
    have d5 := N2.out.cell 5
    have d6 := N2.out.cell 6
    have d7 := N2.out.cell 7
    simp only [List.getElem?_toArray, List.getElem?_cons_zero, List.getElem?_cons_succ] at d0 d1 d2 d3 d4 d5 d6 d7
    have AC := HA.out v ⟨fk, fs, fd, fq, fl, fm, fc, fx⟩ B2.out
    simp only at AC
    clear HA
    go_upto_region 8 with (go_at_call 33; with_reducible refine AC.mono ?_; rintro e w3 ⟨rfl, hb3⟩)
    have B3 : Hid (Below w.heap.size w w3) := B2.out.trans (hb3.mono B2.out.size)
    have K3 : Hid (KnAt w3 b S r pr mr sr) := K2.out.next hb3
    clear B2 N2 K2 AC hb3 d0 d1 d2 d3 d4 d5 d6 d7
    have hq : (P ≤ 0) ∨ (¬ P ≤ 0 ∧ 5 ≤ P) := by omega
    rcases hq with q0 | ⟨q0, q1⟩
    · have q2 : decide (P ≤ 0) = true := by simpa using q0
      go_wp2
      go_ret
      exact ⟨_, rfl, ⟨OK.out, r, pr, mr, sr, K3.out, rfl⟩, Gr.of B3.out⟩
    · have q2 : decide (P ≤ 0) = false := by simpa using q0
      have q3 : decide (5 ≤ P) = true := by simpa using q1
      go_wp2
      go_ret
      exact ⟨rfl, _, ⟨OK.out, r, pr, mr, sr, K3.out, rfl⟩, Gr.of B3.out⟩
end Go.Proofs.Ytkigeakaedkjpaa

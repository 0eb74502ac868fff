/-
  The walk of InboxApart. (Written by gen_iap.py.)
-/
import Derived.Test.YtpmkpjnhdehnhaaILives
import Derived.Test.YtpmkpjnhdehnhaaIApP
import Derived.Test.YtpmkpjnhdehnhaaIRst
import Derived.Test.YtpmkpjnhdehnhaaGwC
import Derived.Deep.CutBlock
namespace Go.Proofs.Ytpmkpjnhdehnhaa
open Go.RowKit

/-- How many of each source. -/
def apC (l : List Int) (k : Nat) : Nat := if k < l.length then irst (l.getD k 0) 5 else 0
theorem apC_lt (l : List Int) (k : Nat) : apC l k < 5 := by
  unfold apC
  split
  · exact (irst_eq _ (by decide) (by decide)).1
  · omega
/-- The law's list of them, of the first k. -/
def apV (cs : Nat → Nat) (k i : Nat) : Value := .int .i64 ((if i < k then cs i else 0 : Nat) : Int)
abbrev apL (cs : Nat → Nat) (k : Nat) : Array Value := #[apV cs k 0, apV cs k 1, apV cs k 2, apV cs k 3]
theorem apL_at (cs : Nat → Nat) (k i : Nat) (h : i < 4) : (apL cs k)[i]? = some (apV cs k i) := by
  have : i = 0 ∨ i = 1 ∨ i = 2 ∨ i = 3 := by omega
  rcases this with rfl | rfl | rfl | rfl <;> rfl
theorem apL_set (cs : Nat → Nat) (k : Nat) (h : k < 4) : (apL cs k).setIfInBounds k (.int .i64 (cs k : Int)) = apL cs (k + 1) := by
  have : k = 0 ∨ k = 1 ∨ k = 2 ∨ k = 3 := by omega
  rcases this with rfl | rfl | rfl | rfl <;> simp [apV]
theorem apL_same (cs : Nat → Nat) (k : Nat) (h : cs k = 0) (hk : k < 4) : apL cs k = apL cs (k + 1) := by
  have : k = 0 ∨ k = 1 ∨ k = 2 ∨ k = 3 := by omega
  rcases this with rfl | rfl | rfl | rfl <;> simp [apV, h]
abbrev OneC (k : Nat) : Nat → Prop := fun g => g = k
/-- The law's inbox and its list. -/
structure ApX (w0 v : World) (b cb : Nat) (S : IS) (C : Array Value) : Prop where
  x : Ix w0 v b S (OneC cb)
  c : Bk v cb C 59
  n : w0.heap.size ≤ cb
section
variable {w0 v v' : World} {b cb : Nat} {S S' : IS} {C : Array Value}
theorem ApX.next (h : ApX w0 v b cb S C) (hb : Below v.heap.size v v') : ApX w0 v' b cb S C := ⟨(h.x.next hb).1, h.c.next hb, h.n⟩
theorem ApX.step (h : ApX w0 v b cb S C) (hx : Ix w0 v' b S' (OneC cb)) (hk : Kp (OneC cb) v v') : ApX w0 v' b cb S' C := ⟨hx, h.c.kp hk rfl, h.n⟩
theorem ApX.set (h : ApX w0 v b cb S C) (j : Nat) (x : Value) : ApX w0 (v.setCell ⟨cb, j, none⟩ x) b cb S (C.setIfInBounds j x) := ⟨h.x.set rfl h.n, h.c.set j x, h.n⟩
end

set_option maxRecDepth 100000 in
set_option maxHeartbeats 16000000 in
theorem apart_law (l : List Int) (a : Option Addr) (cap : Nat) (gap : Int) (w : World) (hr : Rd w a (l.map (.int .i64 ·))) (hm : l.length ≤ maxLen) :
    Calls Try.prog 8 #[.slice a l.length cap, .int .i64 gap] w fun e w' => e = .returned (.bool true) ∧ Below w.heap.size w w' := by
  have LV := lives_any w
  obtain ⟨k1, k2⟩ := irst_eq gap (m := 4) (by decide) (by decide)
  replace k2 : wrap64 ((IntKind.u64.wrap gap).tmod 4) = ((irst gap 4 : Nat) : Int) := k2
  generalize irst gap 4 = g at *
  have HR : Hid (Rd w a (l.map (.int .i64 ·))) := hr
  obtain ⟨cs, hcs⟩ : ∃ cs : Nat → Nat, cs = apC l := ⟨_, rfl⟩
  have HCS : Hid (cs = apC l) := hcs
  have clt : ∀ k, cs k < 5 := fun k => by rw [hcs]; exact apC_lt l k
  have HCL : Hid (∀ k, cs k < 5) := clt
  have hm2 : l.length ≤ 9223372036854775807 := hm
  have CN : Hid (∀ v, Below w.heap.size w v → Calls Try.prog 11 #[.int .i64 64] v fun e v' => ∃ b, e = .returned (.pointer (some ⟨b, 0, none⟩)) ∧ Ix w v' b (sA g cs 0 0) NoB) := show _ from fun v hb => by
    refine (ix_new (w0 := w) (O := NoB) hb (fun _ h => h.elim) 64).mono ?_
    rintro e v' ⟨b, rfl, x, _⟩
    rw [show roomN 64 = 64 from rfl, ← sA_zero (g := g) (cs := cs)] at x
    exact ⟨b, rfl, x⟩
  clear hr hcs clt hm
  go_enter Try.func8, Try.ntmps8
  go_upto_region 3 with (go_at_call 10; with_reducible refine LV.mono ?_; rintro e v1 ⟨rfl, hb1⟩)
  have C1 := CN.out v1 hb1
  clear LV hb1 CN
  go_upto_region 5 with (go_at_call 11; with_reducible refine C1.mono ?_; rintro e v2 ⟨b, rfl, X0⟩)
  rw [k2]
  clear k2
  go_upto_region 6 with fail
  have XA : Hid (ApX w (v2.alloc (.cells #[.int .i64 0, .int .i64 0, .int .i64 0, .int .i64 0] 59)) b v2.heap.size (sA g cs 0 0) (apL cs 0)) := ⟨(X0.alloc _).less (fun q hq => Or.inr hq), by
    have := Bk.new v2 #[.int .i64 0, .int .i64 0, .int .i64 0, .int .i64 0] 59
    exact this, X0.size⟩
  clear X0 C1
  generalize v2.alloc (.cells #[.int .i64 0, .int .i64 0, .int .i64 0, .int .i64 0] 59) = v3 at *
  generalize v2.heap.size = cb at *
  go_wp2_with fail
  go_loopw [7] (fun i wr => ∃ k : Nat, k ≤ 4 ∧ i = .int .i64 k ∧ ApX w wr b cb (sA g cs k 0) (apL cs k)) (fun i _ => 4 - (intOf i).toNat)
  case atStart => exact ⟨0, Nat.zero_le _, rfl, XA.out⟩
  case round =>
    clear XA
    obtain ⟨k, hk, rfl, X⟩ := hrel
    by_cases hlt : k < 4
    · have HX : Hid (ApX w wr b cb (sA g cs k 0) (apL cs k)) := X
      clear X hk
      go_upto_region 9 with fail
      rw [decide_eq_true (show (k : Int) < 4 by omega)]
      go_upto_if 27 with fail
      obtain ⟨G, hG⟩ : ∃ G, decide (k < l.length) = G := ⟨_, rfl⟩
      rw [hG]
      go_cut [] from 28 to 36 (fun wc => ApX w wc b cb (sA g cs k 0) (apL cs (k + 1)))
      case first =>
        cases G with
        | true =>
          have hk : k < l.length := by simpa using hG
          obtain ⟨x, hx⟩ : ∃ x, l[k]? = some x := ⟨_, List.getElem?_eq_getElem hk⟩
          obtain ⟨ga, oa, ha, hga, hc⟩ := HR.out k (.int .i64 x) (by rw [List.getElem?_map, hx]; rfl)
          have hc2 : wr.cell? ⟨ga, oa + k, none⟩ = some (.int .i64 x) := (HX.out.x.bl.cell (p := ⟨ga, oa + k, none⟩) hga).trans hc
          have hck : cs k = irst x 5 := by rw [HCS.out]; unfold apC; rw [if_pos hk]; simp [List.getD, hx]
          obtain ⟨q1, q2⟩ := irst_eq x (m := 5) (by decide) (by decide)
          replace q2 : wrap64 ((IntKind.u64.wrap x).tmod 5) = (cs k : Int) := by rw [hck]; exact q2
          subst ha
          have z0 := HX.out.c.cell k
          rw [apL_at cs k k hlt] at z0
          have z1 := HX.out.c.free k
          have XS := HX.out.set k (.int .i64 (cs k : Int))
          rw [apL_set cs k hlt] at XS
          have HXS : Hid (ApX w (wr.setCell ⟨cb, k, none⟩ (.int .i64 (cs k : Int))) b cb (sA g cs k 0) (apL cs (k + 1))) := XS
          clear XS HX hx hc hG q1 hck HR
          obtain ⟨ck, hck⟩ : ∃ ck : Int, (cs k : Int) = ck := ⟨_, rfl⟩
          rw [hck] at q2 HXS
          clear hck
          go_wp2_with fail
          go_meet
          exact HXS.out
        | false =>
          have hk : ¬ k < l.length := by simpa using hG
          have hck : cs k = 0 := by rw [HCS.out]; unfold apC; rw [if_neg hk]
          rw [apL_same cs k hck hlt] at HX
          clear hG hk hck
          go_wp2_with fail
          go_meet
          exact HX.out
      case rest =>
      have HX1 : Hid (ApX w wc b cb (sA g cs k 0) (apL cs (k + 1))) := hcut
      clear hcut HX hG
      obtain ⟨m, hm⟩ : ∃ m, cs k = m := ⟨_, rfl⟩
      have HM : Hid (cs k = m) := hm
      have m5 : m < 5 := hm ▸ HCL.out k
      have CV : Hid (∀ (v : World) (S : IS), ApX w v b cb S (apL cs (k + 1)) → v.cell? ⟨cb, k, none⟩ = some (.int .i64 (m : Int))) := show _ from fun v S h => by
        rw [h.c.cell k, apL_at cs (k + 1) k hlt]
        unfold apV
        rw [if_pos (Nat.lt_succ_self k), hm]
      clear hm
      go_wp2_with fail
      go_loopw [8] (fun i wr => ∃ j : Nat, j ≤ m ∧ i = .int .i64 j ∧ ApX w wr b cb (sA g cs k j) (apL cs (k + 1))) (fun i _ => m - (intOf i).toNat)
      case atStart => exact ⟨0, Nat.zero_le _, rfl, HX1.out⟩
      case round =>
        clear HX1
        obtain ⟨j, hj, rfl, X⟩ := hrel
        have y := CV.out _ _ X
        by_cases hjm : j < m
        · by_cases hsk : k = g ∧ j = 0
          · have b1 : ((k : Int) == (g : Int)) = true := by rw [hsk.1]; simp
            have b2 : ((j : Int) == 0) = true := by rw [hsk.2]; rfl
            have X1 : Hid (ApX w wr b cb (sA g cs k (j + 1)) (apL cs (k + 1))) := show ApX w wr b cb (sA g cs k (j + 1)) (apL cs (k + 1)) from by
              have := X
              rw [hsk.1, hsk.2, sA_skip] at this
              rw [hsk.1, hsk.2]
              exact this
            clear X hsk
            go_wp2_with fail
            go_roundw
            case rel => exact ⟨j + 1, by omega, by go_num, X1.out⟩
            case measure => simp [intOf]; omega
          · obtain ⟨e1, e2⟩ := sA_come (g := g) (cs := cs) (s := k) (n := j) hlt (by omega) hsk
            have C := ix_come X.x (pkj k j)
            rw [e1, e2] at C
            have C' : Calls Try.prog 17 #[.pointer (some ⟨b, 0, none⟩), .agg #[.int .i64 (k : Int), .int .i64 0, .int .i64 (j : Int), .string ⟨#[]⟩]] wr fun e w' => e = .returned (.int .i64 0) ∧ ApX w w' b cb (sA g cs k (j + 1)) (apL cs (k + 1)) := C.mono fun _ _ h => ⟨h.1, X.step h.2.1 h.2.2⟩
            clear C e1 e2 X
            by_cases hkg : k = g
            · have b1 : ((k : Int) == (g : Int)) = true := by rw [hkg]; simp
              have b2 : ((j : Int) == 0) = false := by
                have : j ≠ 0 := fun c => hsk ⟨hkg, c⟩
                simpa using this
              clear hkg hsk
              go_wp2_with (go_at_call 17; with_reducible refine C'.mono ?_; rintro e v5 ⟨rfl, X⟩)
              go_roundw
              case rel => exact ⟨j + 1, by omega, by go_num, X⟩
              case measure => simp [intOf]; omega
            · have b1 : ((k : Int) == (g : Int)) = false := by simpa using fun c : (k : Int) = g => hkg (Int.ofNat.inj c)
              clear hkg hsk
              go_wp2_with (go_at_call 17; with_reducible refine C'.mono ?_; rintro e v5 ⟨rfl, X⟩)
              go_roundw
              case rel => exact ⟨j + 1, by omega, by go_num, X⟩
              case measure => simp [intOf]; omega
        · have X1 : Hid (ApX w wr b cb (sA g cs (k + 1) 0) (apL cs (k + 1))) := show ApX w wr b cb (sA g cs (k + 1) 0) (apL cs (k + 1)) from by
            have := X
            rw [show j = cs k by rw [HM.out]; omega, sA_next] at this
            exact this
          clear X
          go_wp2_with fail
          go_roundw
          case rel => exact ⟨k + 1, by omega, by go_num, X1.out⟩
          case measure => simp [intOf]; omega
    · have X1 : Hid (ApX w wr b cb (sB g cs 0 0) (apL cs 4)) := show ApX w wr b cb (sB g cs 0 0) (apL cs 4) from by
        have := X
        rw [show k = 4 by omega, sB_start] at this
        exact this
      clear X
      have hlt2 : ¬ ((k : Int) < 4) := by omega
      clear hlt hk
      go_wp2_with fail
      go_loopw [9] (fun i wr => ∃ s : Nat, s ≤ 4 ∧ i = .int .i64 s ∧ ApX w wr b cb (sB g cs s 0) (apL cs 4)) (fun i _ => 4 - (intOf i).toNat)
      case atStart => exact ⟨0, Nat.zero_le _, rfl, X1.out⟩
      case round =>
        clear X1
        obtain ⟨s, hs, rfl, X⟩ := hrel
        by_cases hs4 : s < 4
        · obtain ⟨m, hm⟩ : ∃ m, cs s = m := ⟨_, rfl⟩
          have HM : Hid (cs s = m) := hm
          have m5 : m < 5 := hm ▸ HCL.out s
          have CV : Hid (∀ (v : World) (S : IS), ApX w v b cb S (apL cs 4) → v.cell? ⟨cb, s, none⟩ = some (.int .i64 (m : Int))) := show _ from fun v S h => by
            rw [h.c.cell s, apL_at cs 4 s hs4]
            unfold apV
            rw [if_pos hs4, hm]
          have HX : Hid (ApX w wr b cb (sB g cs s 0) (apL cs 4)) := X
          clear hm X
          go_upto_region 20 with fail
          rw [decide_eq_true (show (s : Int) < 4 by omega)]
          by_cases hsg : s = g
          · have b1 : ((s : Int) != (g : Int)) = false := by rw [hsg]; simp
            have X1 : Hid (ApX w wr b cb (sB g cs (s + 1) 0) (apL cs 4)) := show ApX w wr b cb (sB g cs (s + 1) 0) (apL cs 4) from by
              have := HX.out
              rw [hsg, sB_gap] at this
              rw [hsg]
              exact this
            have y := CV.out _ _ HX.out
            clear HX CV hsg
            go_wp2_with fail
            refine wp_loop_rounds 1 ?_
            rw [rounds_succ]
            by_cases hm0 : 0 < m
            · have hm1 : (0 : Int) < (m : Int) := by omega
              clear hm0
              go_wp2_with fail
              go_roundw
              case rel => exact ⟨s + 1, by omega, by go_num, X1.out⟩
              case measure => simp [intOf]; omega
            · have hm1 : ¬ ((0 : Int) < (m : Int)) := by omega
              clear hm0
              go_wp2_with fail
              go_roundw
              case rel => exact ⟨s + 1, by omega, by go_num, X1.out⟩
              case measure => simp [intOf]; omega
          · have b1 : ((s : Int) != (g : Int)) = true := by simpa using fun c : (s : Int) = g => hsg (Int.ofNat.inj c)
            have HSG : Hid (s ≠ g) := hsg
            clear hsg
            go_wp2_with fail
            go_loopw [10] (fun i wr => ∃ j : Nat, j ≤ m ∧ i = .int .i64 j ∧ ApX w wr b cb (sB g cs s j) (apL cs 4)) (fun i _ => m - (intOf i).toNat)
            case atStart => exact ⟨0, Nat.zero_le _, rfl, HX.out⟩
            case round =>
              clear HX
              obtain ⟨j, hj, rfl, X⟩ := hrel
              have y := CV.out _ _ X
              by_cases hjm : j < m
              · obtain ⟨t1, t2⟩ := sB_tell X.x.ok.ap hs4 (show j < cs s by rw [HM.out]; exact hjm) HSG.out (by omega)
                have C := ix_tell X.x
                rw [t1, t2] at C
                have CT : Calls Try.prog 19 #[.pointer (some ⟨b, 0, none⟩)] wr fun e w' => e = .returned (.bool true) ∧ ApX w w' b cb (sT g cs s j) (apL cs 4) := C.mono fun _ _ h => ⟨h.1, X.step h.2.1 h.2.2⟩
                have CR : Hid (∀ v, ApX w v b cb (sT g cs s j) (apL cs 4) → Calls Try.prog 21 #[.pointer (some ⟨b, 0, none⟩)] v fun e w' => e = .returned (.tuple #[.agg #[.int .i64 (s : Int), .int .i64 0, .int .i64 (j : Int), .string ⟨#[]⟩], .int .i64 0]) ∧ ApX w w' b cb (sB g cs s (j + 1)) (apL cs 4)) := show _ from fun v hv => (ix_recv hv.x).mono fun _ _ h => by
                  obtain ⟨r1, r2, r3⟩ := sT_recv (g := g) (cs := cs) (s := s) (n := j)
                  rw [r1, r2, r3] at h
                  exact ⟨h.1, hv.step h.2.1 h.2.2⟩
                clear C t1 t2 X
                go_upto_region 25 with (go_at_call 19; with_reducible refine CT.mono ?_; rintro e v5 ⟨rfl, X5⟩)
                have CR1 := CR.out v5 X5
                clear CT CR X5 y
                go_upto_region 26 with (go_at_call 21; with_reducible refine CR1.mono ?_; rintro e v6 ⟨rfl, X6⟩)
                have X7 : Hid (ApX w (v6.alloc (.cells #[.int .i64 (s : Int), .int .i64 0, .int .i64 (j : Int), .string ⟨#[]⟩] 33)) b cb (sB g cs s (j + 1)) (apL cs 4)) := X6.next ((Below.refl _ _).alloc (Nat.le_refl _) _)
                have N7 := Bk.new v6 #[.int .i64 (s : Int), .int .i64 0, .int .i64 (j : Int), .string ⟨#[]⟩] 33
                clear X6 CR1
                generalize v6.alloc (.cells #[.int .i64 (s : Int), .int .i64 0, .int .i64 (j : Int), .string ⟨#[]⟩] 33) = v7 at *
                generalize v6.heap.size = d at *
                have y0 := N7.cell 0
                have y2 := N7.cell 2
                simp only [List.getElem?_toArray, List.getElem?_cons_zero, List.getElem?_cons_succ] at y0 y2
                go_wp2_with fail
                go_roundw
                case rel => exact ⟨j + 1, by omega, by go_num, X7.out⟩
                case measure => simp [intOf]; omega
              · have X1 : Hid (ApX w wr b cb (sB g cs (s + 1) 0) (apL cs 4)) := show ApX w wr b cb (sB g cs (s + 1) 0) (apL cs 4) from by
                  have := X
                  rw [show j = cs s by rw [HM.out]; omega, sB_next HSG.out] at this
                  exact this
                have hjm2 : ¬ ((j : Int) < (m : Int)) := by omega
                clear X hjm
                go_wp2_with fail
                go_roundw
                case rel => exact ⟨s + 1, by omega, by go_num, X1.out⟩
                case measure => simp [intOf]; omega
        · obtain rfl : s = 4 := by omega
          obtain ⟨m, hm⟩ : ∃ m, cs g = m := ⟨_, rfl⟩
          have m5 : m < 5 := hm ▸ HCL.out g
          have wl := sB_len (g := g) (cs := cs) k1
          have wn := sB_none (g := g) (cs := cs) k1
          have wx := sB_nx (g := g) (cs := cs)
          rw [hm] at wl
          have y : ∀ q : Gw wr, q.v.cell? ⟨cb, g, none⟩ = some (.int .i64 (m : Int)) := fun q => Gw.cell q X.c.lt (by
            rw [X.c.cell g, apL_at cs 4 g k1]
            unfold apV
            rw [if_pos k1, hm])
          have TC : ∀ q : Gw wr, Calls Try.prog 19 #[.pointer (some ⟨b, 0, none⟩)] q.v fun e w' => e = .returned (.bool false) ∧ Below q.v.heap.size q.v w' := fun q => by
            obtain ⟨F, hI, _⟩ := (X.x.next q.le).1.ex
            exact tell_no hI (by unfold tellB; rw [wn]; simp)
          have YC : ∀ q : Gw wr, Calls Try.prog 27 #[.pointer (some ⟨b, 0, none⟩)] q.v fun e w' => e = .returned (.bool false) ∧ Below q.v.heap.size q.v w' := fun q => by
            obtain ⟨F, hI, _⟩ := (X.x.next q.le).1.ex
            have := inbox_ready hI
            rw [wn] at this
            exact this
          have WC : ∀ q : Gw wr, Calls Try.prog 25 #[.pointer (some ⟨b, 0, none⟩)] q.v fun e w' => e = .returned (.int .i64 ((m - 1 : Nat) : Int)) ∧ Below q.v.heap.size q.v w' := fun q => by
            obtain ⟨F, hI, _⟩ := (X.x.next q.le).1.ex
            have := inbox_waits hI
            rw [wl] at this
            exact this
          have NC : ∀ q : Gw wr, Calls Try.prog 26 #[.pointer (some ⟨b, 0, none⟩), .int .i64 (g : Int)] q.v fun e w' => e = .returned (.int .i64 0) ∧ Below q.v.heap.size q.v w' := fun q => by
            obtain ⟨F, hI, _⟩ := (X.x.next q.le).1.ex
            have := inbox_next hI (s := (g : Int)) (wf_small (by omega) (by omega))
            rw [wx] at this
            exact this
          have HB : Hid (Below w.heap.size w wr) := X.x.bl
          clear X wl wn wx hm hs4 hs
          obtain ⟨M0, hM0⟩ : ∃ M0 : Int, (m : Int) = M0 := ⟨_, rfl⟩
          obtain ⟨M2, hM2⟩ : ∃ M2 : Int, ((m - 1 : Nat) : Int) = M2 := ⟨_, rfl⟩
          obtain ⟨M1, hM1⟩ : ∃ M1 : Int, M0 - 1 = M1 := ⟨_, rfl⟩
          have w1 : IntKind.i64.wrap M1 = M1 := (IntWalk.i64_left M1).trans (IntWalk.wrap64_in M1 (by omega))
          have hm : (M1 < 0 ∧ M2 = 0) ∨ ((M1 < 0) = False ∧ M2 = M1) := by
            by_cases c : M1 < 0
            · exact Or.inl ⟨c, by omega⟩
            · exact Or.inr ⟨eq_false c, by omega⟩
          rw [hM2] at WC
          rw [hM0] at y
          clear hM0 hM2 m5
          have g1 : (g : Int) < 4 := by omega
          have g2 : ¬ (4 ≤ g) := by omega
          have g3 : ¬ ((g : Int) < 0) := by omega
          rcases hm with ⟨m1, rfl⟩ | ⟨m1, rfl⟩
          all_goals
            go_wp2_with fail
            refine region_gw (by kernel_rfl) (by kernel_rfl) ?_
            repeat (first
              | go_big_quiet_skip
              | quiet_step (first
                | (go_at_call 19; exact quiet_below (TC _))
                | (go_at_call 25; exact quiet_below (WC _))
                | (go_at_call 26; exact quiet_below (NC _))
                | (go_at_call 27; exact quiet_below (YC _))))
            refine wpQuiet_nil ?_
            intro u hw'
            obtain ⟨⟨u', hb⟩, e⟩ := hw'
            obtain rfl : u = u' := e
            go_wp2
            go_ret
            exact ⟨rfl, HB.out.trans (hb.mono HB.out.size)⟩
end Go.Proofs.Ytpmkpjnhdehnhaa

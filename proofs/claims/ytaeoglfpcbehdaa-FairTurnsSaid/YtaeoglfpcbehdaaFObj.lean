/-
  Whose turn it is: the program's object, its calls by contract; what is asked of one who wants.
-/
import Derived.Test.YtaeoglfpcbehdaaFBase
import Derived.Test.YtaeoglfpcbehdaaFPlain
import Derived.Shelf.Abstract
import Derived.Defers
import Derived.Recover
namespace Go.Proofs.Ytaeoglfpcbehdaa
open Go.RowKit

/-- The document's cells: so many places; the last one (l: the one behind it). -/
abbrev fc (N l : Nat) : Array Value := #[.int .i64 (N : Int), .int .i64 ((l : Int) - 1)]
/-- The program's cells: any number of places; the one behind the last one. -/
abbrev oc (n : Int) (l : Nat) : Array Value := #[.int .i64 n, .int .i64 (l : Int)]
/-- A block holds an object of N places, of which l is asked next. -/
def Fb (v : World) (b N l : Nat) : Prop := l ≤ N ∧ ∃ n, clampN n = N ∧ Bk v b (oc n l) 48
theorem Fb.le {v : World} {b N l : Nat} (h : Fb v b N l) : l ≤ N ∧ N ≤ 4096 := by obtain ⟨hl, n, e, h⟩ := h; exact ⟨hl, e ▸ (clamp_pos n).2.1⟩
theorem Fb.lt {v : World} {b N l : Nat} (h : Fb v b N l) : b < v.heap.size := by obtain ⟨_, n, _, h⟩ := h; exact h.lt
theorem Fb.below {v v' : World} {B b N l : Nat} (h : Fb v b N l) (hb : Below B v v') (hB : b < B) : Fb v' b N l := by obtain ⟨hl, n, e, h⟩ := h; exact ⟨hl, n, e, h.below hb hB⟩
theorem Fb.next {v v' : World} {b N l : Nat} (h : Fb v b N l) (hb : Below v.heap.size v v') : Fb v' b N l := h.below hb h.lt
theorem Fb.alloc {v : World} {b N l : Nat} (h : Fb v b N l) (o : Obj) : Fb (v.alloc o) b N l := by obtain ⟨hl, n, e, h⟩ := h; exact ⟨hl, n, e, h.alloc o⟩
theorem Fb.drewN {v : World} {b N l : Nat} (h : Fb v b N l) (n : Nat) : Fb (v.drewN n) b N l := by obtain ⟨hl, m, e, h⟩ := h; exact ⟨hl, m, e, h.drewN n⟩
theorem Fb.far {v : World} {b k j N l : Nat} {x : Value} (h : Fb v b N l) (hne : b ≠ k) : Fb (v.setCell ⟨k, j, none⟩ x) b N l := by obtain ⟨hl, n, e, h⟩ := h; exact ⟨hl, n, e, h.far hne⟩
theorem Fb.gb {v v' : World} {b k N l : Nat} (h : Fb v b N l) (hg : Gb k v v') (hne : ¬ b = k) : Fb v' b N l := by obtain ⟨hl, n, e, h⟩ := h; exact ⟨hl, n, e, h.gb hg hne⟩
theorem Fb.new (w : World) {n : Int} {N : Nat} (h : clampN n = N) : Fb (w.alloc (.cells (oc n 0) 48)) w.heap.size N 0 := ⟨Nat.zero_le _, n, h, Bk.new _ _ _⟩

theorem clamp_ways (n : Int) : (n < 1 ∧ ((clampN n : Nat) : Int) = 1) ∨ (1 ≤ n ∧ 4096 < n ∧ ((clampN n : Nat) : Int) = 4096) ∨ (1 ≤ n ∧ n ≤ 4096 ∧ ((clampN n : Nat) : Int) = n) := by
  have := (clamp_pos n).2.2
  omega

theorem new_any (n : Int) (w : World) : Calls Try.prog 10 #[.int .i64 n] w fun e w' => e = .returned (.pointer (some ⟨w.heap.size, 0, none⟩)) ∧ w' = w.alloc (.cells (oc n 0) 48) := by
  simp only [oc]
  go_enter Try.func10, Try.ntmps10
  go_wp2
  go_ret
  exact ⟨rfl, rfl⟩
theorem last_any {w : World} {b N l : Nat} (h : Fb w b N l) : Calls Try.prog 16 #[.pointer (some ⟨b, 0, none⟩)] w fun e w' => e = .returned (.int .i64 ((l : Int) - 1)) ∧ w = w' := by
  have hle := h.le
  have hw : wrap64 ((l : Int) - 1) = (l : Int) - 1 := by
    rw [← IntWalk.i64_left]
    exact IntWalk.i64_in _ (by omega)
  obtain ⟨_, n, -, h⟩ := h
  have c0 := h.cell 1
  simp only [oc, List.getElem?_toArray, List.getElem?_cons_zero, List.getElem?_cons_succ] at c0
  clear h
  go_enter Try.func16, Try.ntmps16
  go_wp2
  go_ret
  exact ⟨rfl, rfl⟩
theorem places_any {w : World} {b N l : Nat} (h : Fb w b N l) : Calls Try.prog 17 #[.pointer (some ⟨b, 0, none⟩)] w fun e w' => e = .returned (.int .i64 (N : Int)) ∧ w = w' := by
  obtain ⟨_, n, rfl, h⟩ := h
  have c0 := h.cell 0
  simp only [oc, List.getElem?_toArray, List.getElem?_cons_zero] at c0
  clear h
  rcases clamp_ways n with ⟨a, e⟩ | ⟨a, b, e⟩ | ⟨a, b, e⟩ <;> rw [e] <;> clear e
  all_goals
    go_enter Try.func17, Try.ntmps17
    go_wp2
    go_ret
    exact ⟨rfl, rfl⟩
theorem last_nil (w : World) : Calls Try.prog 16 #[.pointer none] w fun e w' => e = .returned (.int .i64 (-1)) ∧ w = w' := by
  go_enter Try.func16, Try.ntmps16
  go_wp2
  go_ret
  exact ⟨rfl, rfl⟩
theorem places_nil (w : World) : Calls Try.prog 17 #[.pointer none] w fun e w' => e = .returned (.int .i64 0) ∧ w = w' := by
  go_enter Try.func17, Try.ntmps17
  go_wp2
  go_ret
  exact ⟨rfl, rfl⟩

/-- A function value that may be called. -/
def Ent (g : Nat) : Prop := ∀ (args : Array Value) (w : World), (callFunc g args).run Try.prog w = .ok (.enter g args) w

/-- The deferred one of a call that returns: it finds nothing. -/
theorem catch_idle (p : Addr) (w : World) :
    CallsD Try.prog 26 #[.pointer (some p)] .returning w fun e u' w' => e = .returned (.tuple #[]) ∧ u' = .returning ∧ w' = w := by
  refine callsD_of_wpS Try.func26 rfl fun c₀ cs hu => ?_
  apply wpS_seq
  apply wpS_region
  simp [wpOpsS, go_sem, recoverD, hu, Try.ntmps26, Exit.thenS]
  refine wpS_cond (t := false) (by simp [Act.eval, Array.replicate]) ?_
  simp only [Bool.false_eq_true, if_false]
  refine wpS_of_wp (wp_skip ?_)
  cases c₀
  simp_all [bodyPostS, results, Try.results26]
/-- Behind a call the blocks from S on are as they were. -/
def Up (S : Nat) (w w' : World) : Prop := w.heap.size ≤ w'.heap.size ∧ ∀ q, S ≤ q → q < w.heap.size → w'.heap[q]? = w.heap[q]?
/-- One is asked whether it wants: what is asked tells r. -/
theorem wants_any (g : Nat) (lb : Array Value) (eg : Ent g) (k : Int) (r : Bool) (R : World → Prop) (w : World)
    (hc : Calls Try.prog g (#[.int .i64 k] ++ lb) (w.alloc (.cells #[.bool false] 4)) fun e w'' => e = .returned (.bool r) ∧ R w'' ∧ Bk w'' w.heap.size #[.bool false] 4) :
    Calls Try.prog 23 #[.func (.func g) #[] lb, .int .i64 k] w fun e w' => e = .returned (.bool r) ∧ ∃ w'', R w'' ∧ w' = w''.setCell ⟨w.heap.size, 0, none⟩ (.bool r) := by
  have hmf : ∀ (fn : Fn) (first cap : Array Value) (w : World), (Instr.makeFunc fn first cap).run Try.prog w = .ok (.func fn first cap) w := fun _ _ _ _ => rfl
  have eg' : ∀ (args : Array Value) (w : World), (callFunc g args).run Try.prog w = .ok (.enter g args) w := eg
  clear eg
  go_enter_defers Try.func23, Try.ntmps23
  go_wp2_with fail
  go_at_fn g
  refine hc.mono ?_
  rintro e w2 ⟨rfl, hR, hB⟩
  have c0 := hB.cell 0
  have z0 := hB.free 0
  simp only [List.getElem?_toArray, List.getElem?_cons_zero] at c0
  go_wp2
  refine leaves_cons (f := 26) (args := #[.pointer (some ⟨w.heap.size, 0, none⟩)]) (by simp) (by simp [go_sem]) ?_
  refine (catch_idle ⟨w.heap.size, 0, none⟩ _).mono ?_
  rintro e u' w'' ⟨rfl, rfl, rfl⟩
  have c1 : (w2.setCell ⟨w.heap.size, 0, none⟩ (.bool r)).cell? ⟨w.heap.size, 0, none⟩ = some (.bool r) := by simpa using (hB.set 0 (.bool r)).cell 0
  simp [Leaves, settle, results, Try.results23, go_sem, c1]
  exact ⟨w2, hR, rfl⟩

set_option maxRecDepth 100000 in
set_option maxHeartbeats 4000000 in
theorem see_any (g : Nat) (lb : Array Value) (eg : Ent g) (N l : Nat) (h0 : 0 < N) (hN : N ≤ 4096) (hl : l ≤ N) (W : Nat → Bool) (I : Nat → World → Prop) (b : Nat)
    (w : World) (hb : Fb w b N l) (hd : ∀ i w' w'', I i w' → Below w.heap.size w' w'' → I i w'')
    (hc : ∀ i w', i < N → (∀ j, j < i → W ((l + j) % N) = false) → I i w' → Calls Try.prog g (#[.int .i64 (((l + i) % N : Nat) : Int)] ++ lb) w' fun e w'' => e = .returned (.bool (W ((l + i) % N))) ∧ I (i + 1) w'' ∧ Up w.heap.size w' w'')
    (hI : I 0 w) :
    Calls Try.prog 13 #[.pointer (some ⟨b, 0, none⟩), .func (.func g) #[] lb] w fun e w' => e = .returned (.tuple #[.int .i64 ((ask N l W).1 : Int), .bool (ask N l W).2]) ∧ ∃ n, I n w' ∧ 1 ≤ n ∧ n ≤ N ∧ ((ask N l W).2 = true → (ask N l W).1 = (l + (n - 1)) % N) ∧ ((ask N l W).2 = false → n = N) := by
  have wc : Hid (∀ i w', i < N → (∀ j, j < i → W ((l + j) % N) = false) → I i w' → w.heap.size ≤ w'.heap.size → Calls Try.prog 23 #[.func (.func g) #[] lb, .int .i64 (((l + i) % N : Nat) : Int)] w' fun e w'' => e = .returned (.bool (W ((l + i) % N))) ∧ I (i + 1) w'' ∧ w.heap.size ≤ w''.heap.size) := show _ from fun i w' hi hn hI hs => by
    refine (wants_any g lb eg _ (W ((l + i) % N)) (fun v => I (i + 1) v ∧ w'.heap.size ≤ v.heap.size) w' ((hc i _ hi hn (hd i w' _ hI ((Below.refl _ _).alloc hs _))).mono ?_)).mono ?_
    · rintro e w'' ⟨rfl, h1, h2⟩
      have hsz : (w'.alloc (.cells #[.bool false] 4)).heap.size = w'.heap.size + 1 := by simp
      refine ⟨rfl, ⟨h1, by have := h2.1; omega⟩, ?_⟩
      unfold Bk
      rw [h2.2 _ hs (by omega)]
      exact Bk.new _ _ _
    · rintro e w'' ⟨rfl, v, ⟨h1, h2⟩, rfl⟩
      exact ⟨rfl, hd _ _ _ h1 ((Below.refl _ _).setCell hs _), by simp; omega⟩
  have HI : Hid (I 0 w) := hI
  have HD : Hid (∀ i w' w'', I i w' → Below w.heap.size w' w'' → I i w'') := hd
  have PC := fun n => places_any (hb.drewN n)
  obtain ⟨_, n, -, hk⟩ := hb
  have c0 := hk.cell 1
  simp only [oc, List.getElem?_toArray, List.getElem?_cons_zero, List.getElem?_cons_succ] at c0
  have hl1 : l < N ∨ l = N := by omega
  clear hd hc hI eg hk
  go_enter Try.func13, Try.ntmps13
  have hnf : ∀ w, (binOp .eql 32 (.func (.func g) #[] lb) .nilFunc).run Try.prog w = .ok (.bool false) w := fun w => by kernel_rfl
  go_wp2_with fail
  go_quiet ((go_at_call 17; exact Calls.quiet_of_same ((PC _).mono fun _ _ h => ⟨h.1, h.2.symm⟩)))
  have q4 : ¬ N = 0 := by omega
  go_wp2_with fail
  go_loopw [23] (fun x wr => ∃ i : Nat, i ≤ N ∧ x = .int .i64 i ∧ I i wr ∧ w.heap.size ≤ wr.heap.size ∧ ∀ j, j < i → W ((l + j) % N) = false) (fun x _ => N - (RowKit.intOf x).toNat)
  case atStart => exact ⟨0, Nat.zero_le _, rfl, HD.out _ _ _ HI.out (dn (Below.refl _ _) nq), Nat.le_of_eq (by rw [World.heap_drewN]), fun j hj => absurd hj (Nat.not_lt_zero _)⟩
  case round =>
    obtain ⟨i, hi, rfl, hI, hs, hn⟩ := hrel
    have HI2 : Hid (I i wr) := hI
    have HN : Hid (∀ j, j < i → W ((l + j) % N) = false) := hn
    clear HI hI hn c0 PC
    by_cases hlt : i < N
    case neg =>
      have e4 : ¬ (i : Int) < (N : Int) := by omega
      obtain rfl : i = N := by omega
      have ha : Hid (ask i l W = (0, false)) := ask_none HN.out
      go_wp2
      go_ret2
      rw [ha.out]
      exact ⟨rfl, i, HI2.out, h0, Nat.le_refl _, fun h => (by cases h), fun _ => rfl⟩
    have e4 : (i : Int) < (N : Int) := by omega
    have CC := wc.out i wr hlt HN.out HI2.out hs
    have em : (((l + i) % N : Nat) : Int) = ((l : Int) + (i : Int)) % (N : Int) := by
      rw [Int.natCast_emod, Int.natCast_add]
    simp only [em] at CC
    clear em
    cases hw : W ((l + i) % N) <;> simp only [hw] at CC
    · have HN2 : Hid (∀ j, j < i + 1 → W ((l + j) % N) = false) := show _ from fun j hj => by
        rcases (by omega : j < i ∨ j = i) with h | rfl
        · exact HN.out j h
        · exact hw
      clear hw
      go_wp2_with (go_at_call 23; refine CC.mono ?_; rintro e w' ⟨rfl, hI', hs'⟩)
      go_roundw
      case rel => exact ⟨i + 1, by omega, by go_num, hI', hs', HN2.out⟩
      case measure => simp [RowKit.intOf]; omega
    · have ha : Hid (ask N l W = ((l + i) % N, true)) := ask_hit hlt hw HN.out
      clear hw
      go_wp2_with (go_at_call 23; refine CC.mono ?_; rintro e w' ⟨rfl, hI', hs'⟩)
      go_ret2
      rw [ha.out]
      exact ⟨by simp, i + 1, hI', by omega, by omega, fun _ => rfl, fun h => by cases h⟩
/-- What is asked of one who wants: it tells W of any place, and leaves what lay. -/
def Grows (g : Nat) (lb : Array Value) (N : Nat) (W : Nat → Bool) (w : World) : Prop :=
  ∀ (V : World) (k : Nat), k < N → Below w.heap.size w V → Calls Try.prog g (#[.int .i64 (k : Int)] ++ lb) V fun e w' => e = .returned (.bool (W k)) ∧ Below V.heap.size V w'
theorem Grows.later {g : Nat} {lb : Array Value} {N : Nat} {W : Nat → Bool} {w V : World} (h : Grows g lb N W w) (hb : Below w.heap.size w V) : Grows g lb N W V :=
  fun V' k hk hb' => h V' k hk (hb.trans (hb'.mono hb.size))
theorem see_grows {g : Nat} {lb : Array Value} (eg : Ent g) {N l : Nat} (h0 : 0 < N) (hN : N ≤ 4096) (hl : l ≤ N) {W : Nat → Bool} {b : Nat} {w : World} (hb : Fb w b N l) (hp : Grows g lb N W w) :
    Calls Try.prog 13 #[.pointer (some ⟨b, 0, none⟩), .func (.func g) #[] lb] w fun e w' => e = .returned (.tuple #[.int .i64 ((ask N l W).1 : Int), .bool (ask N l W).2]) ∧ Below w.heap.size w w' := by
  refine (see_any g lb eg N l h0 hN hl W (fun _ V => Below w.heap.size w V) b w hb (fun _ V _ h h2 => h.trans h2) (fun i V _ _ h => ?_) (Below.refl _ _)).mono ?_
  · refine (hp V _ (Nat.mod_lt _ h0) h).mono ?_
    rintro e w' ⟨rfl, h2⟩
    exact ⟨rfl, h.trans (h2.mono h.size), h2.size, fun q _ hq => h2.block q hq⟩
  · rintro e w' ⟨rfl, n, h, -⟩
    exact ⟨rfl, h⟩
theorem see_nil (f : Value) (w : World) : Calls Try.prog 13 #[.pointer none, f] w fun e w' => e = .returned (.tuple #[.int .i64 0, .bool false]) ∧ w = w' := by
  go_enter Try.func13, Try.ntmps13
  go_wp2
  go_ret2
  exact ⟨rfl, rfl⟩

theorem next_grows {g : Nat} {lb : Array Value} (eg : Ent g) {N l : Nat} (h0 : 0 < N) (hN : N ≤ 4096) (hl : l ≤ N) {W : Nat → Bool} {b : Nat} {w : World} (hb : Fb w b N l) (hp : Grows g lb N W w) :
    Calls Try.prog 19 #[.pointer (some ⟨b, 0, none⟩), .func (.func g) #[] lb] w fun e w' => e = .returned (.tuple #[.int .i64 ((ask N l W).1 : Int), .bool (ask N l W).2]) ∧ Fb w' b N (nxtl N l W) ∧ Gb b w w' := by
  have SC := see_grows eg h0 hN hl hb hp
  have HB : Hid (Fb w b N l) := hb
  have hx : nxtl N l W = if (ask N l W).2 = true then (ask N l W).1 + 1 else l := rfl
  have hk : (ask N l W).1 < N := ask_lt h0
  generalize nxtl N l W = l2 at *
  generalize ask N l W = r at *
  obtain ⟨k, is⟩ := r
  clear hb hp eg
  cases is
  · simp only [Bool.false_eq_true, if_false] at hx
    subst hx
    go_enter Try.func19, Try.ntmps19
    go_wp2_with fail
    go_at_call 13
    with_reducible refine SC.mono ?_
    rintro e w1 ⟨rfl, h1⟩
    have H1 : Hid (Below w.heap.size w w1) := h1
    clear SC h1
    go_wp2
    go_ret2
    exact ⟨rfl, HB.out.next H1.out, Gb.of H1.out⟩
  · simp only [if_true] at hx
    subst hx
    simp only at hk
    go_enter Try.func19, Try.ntmps19
    go_wp2_with fail
    go_at_call 13
    with_reducible refine SC.mono ?_
    rintro e w1 ⟨rfl, h1⟩
    have H1 : Hid (Below w.heap.size w w1) := h1
    have B1 : Hid (Fb w1 b N l) := HB.out.next h1
    obtain ⟨_, n, en, kk⟩ := B1.out
    have EN : Hid (clampN n = N) := en
    have KK : Hid (Bk w1 b (oc n l) 48) := kk
    have c1 := kk.cell 1
    have z1 := kk.free 1
    simp only [oc, List.getElem?_toArray, List.getElem?_cons_zero, List.getElem?_cons_succ] at c1
    clear SC h1 HB B1 en kk
    go_wp2
    go_ret2
    refine ⟨rfl, ⟨by omega, n, EN.out, ?_⟩, (Gb.of H1.out).set _⟩
    have := KK.out.set 1 (.int .i64 ((k : Int) + 1))
    simpa [oc] using this
theorem next_nil (f : Value) (w : World) : Calls Try.prog 19 #[.pointer none, f] w fun e w' => e = .returned (.tuple #[.int .i64 0, .bool false]) ∧ w = w' := by
  have SC := see_nil f w
  go_enter Try.func19, Try.ntmps19
  go_wp2_with fail
  go_at_call 13
  with_reducible refine SC.mono ?_
  rintro e w1 ⟨rfl, rfl⟩
  clear SC
  go_wp2
  go_ret2
  exact ⟨rfl, rfl⟩
end Go.Proofs.Ytaeoglfpcbehdaa

/-
  A step of a law's: its kind, the first 150 steps, the program's step.
-/
import Derived.Test.YtihfekcdghmkhaaLObj
import Derived.Test.YtihfekcdghmkhaaLCarry
namespace Go.Proofs.Ytihfekcdghmkhaa
open Go.RowKit
open RC (Cl cc cv zc cc_len cc_at)

/-- A number's rest. -/
def rst (n : Int) (m : Nat) : Nat := (IntKind.u64.wrap n % (m : Int)).toNat
theorem rst_in (n : Int) {m : Nat} (h0 : 0 < m) (h1 : m ≤ 65536) : rst n m < m ∧ IntKind.i64.wrap ((IntKind.u64.wrap n).tmod (m : Int)) = (rst n m : Int) := by
  have a0 : 0 ≤ IntKind.u64.wrap n := by rw [IntKind.wrap_u64]; exact Int.emod_nonneg _ (by decide)
  have e : (IntKind.u64.wrap n).tmod (m : Int) = IntKind.u64.wrap n % (m : Int) := Int.tmod_eq_emod_of_nonneg a0
  have a1 := Int.emod_nonneg (IntKind.u64.wrap n) (show (m : Int) ≠ 0 by omega)
  have a2 := Int.emod_lt_of_pos (IntKind.u64.wrap n) (show (0 : Int) < (m : Int) by omega)
  unfold rst
  rw [e, IntWalk.i64_in _ (by omega)]
  omega
theorem rst_eq (n : Int) {m : Nat} (h0 : 0 < m) (h1 : m ≤ 65536) : wrap64 ((IntKind.u64.wrap n).tmod (m : Int)) = (rst n m : Int) := (IntWalk.i64_left _).symm.trans (rst_in n h0 h1).2
/-- A step: kind, lane, word. -/
structure Opn where
  kd : Int
  lane : Int
  word : Int
abbrev oc (o : Opn) : List Value := [.int .i64 o.kd, .int .i64 o.lane, .int .u64 o.word]
abbrev ov (o : Opn) : Value := .agg #[.int .i64 o.kd, .int .i64 o.lane, .int .u64 o.word]
def Opn.k (o : Opn) : Nat := rst o.kd 4
theorem Opn.k_lt (o : Opn) : o.k < 4 := (rst_in o.kd (m := 4) (by decide) (by decide)).1
def ops (l : List Opn) : List Value := l.flatMap oc
theorem ops_len (l : List Opn) : (ops l).length = l.length * 3 := by
  unfold ops
  induction l with
  | nil => rfl
  | cons x l ih => simp [ih]; omega
theorem ops_at : ∀ (l : List Opn) (q : Nat) (x : Opn), l[q]? = some x → (ops l)[q * 3]? = some (.int .i64 x.kd) ∧ (ops l)[q * 3 + 1]? = some (.int .i64 x.lane) ∧ (ops l)[q * 3 + 2]? = some (.int .u64 x.word)
  | [], q, x, h => by simp at h
  | y :: l, 0, x, h => by
    simp at h
    subst h
    simp [ops]
  | y :: l, q + 1, x, h => by
    have := ops_at l q x (by simpa using h)
    rw [show (q + 1) * 3 = q * 3 + 1 + 1 + 1 by omega, show q * 3 + 1 + 1 + 1 + 1 = (q * 3 + 1) + 1 + 1 + 1 by omega, show q * 3 + 1 + 1 + 1 + 2 = (q * 3 + 2) + 1 + 1 + 1 by omega]
    simpa [ops] using this
theorem kind_any (o : Opn) (w : World) : Calls Try.prog 24 #[ov o] w fun e w' => e = .returned (.int .i64 (o.k : Int)) ∧ Below w.heap.size w w' := by
  have k2 : wrap64 ((IntKind.u64.wrap o.kd).tmod 4) = ((rst o.kd 4 : Nat) : Int) := rst_eq o.kd (m := 4) (by decide) (by decide)
  unfold Opn.k
  generalize rst o.kd 4 = r at *
  obtain ⟨kd, la, wo⟩ := o
  simp only [ov] at *
  have B0 : Hid (Below w.heap.size w (w.alloc (.cells #[.int .i64 kd, .int .i64 la, .int .u64 wo] 40))) := (Below.refl _ _).alloc (Nat.le_refl _) _
  have K2 : Hid (wrap64 ((IntKind.u64.wrap kd).tmod 4) = (r : Int)) := k2
  clear k2
  go_enter Try.func24, Try.ntmps24
  go_wp2
  go_ret
  exact ⟨by rw [← K2.out]; rfl, B0.out⟩
theorem early_any (a : Option Addr) (n c : Nat) (w : World) (hn : n ≤ c) (hc : c ≤ maxLen) (ha : a = none → c = 0) : Calls Try.prog 13 #[.slice a n c] w fun e w' => e = .returned (.slice a (min n 150) c) ∧ w = w' := by
  unfold maxLen at hc
  by_cases h : n ≤ 150
  · rw [Nat.min_eq_left h]
    have e1 : (n : Int) ≤ 150 := by omega
    have e2 : (n : Int) ≤ (c : Int) := by omega
    cases a with
    | none =>
      obtain rfl := ha rfl
      obtain rfl : n = 0 := by omega
      go_enter Try.func13, Try.ntmps13
      go_wp2
      go_ret
      exact ⟨rfl, rfl⟩
    | some ad =>
      clear ha
      go_enter Try.func13, Try.ntmps13
      go_wp2
      go_ret
      exact ⟨by simp, rfl⟩
  · rw [Nat.min_eq_right (by omega)]
    have e1 : ¬ (n : Int) ≤ 150 := by omega
    have e2 : (150 : Int) ≤ (c : Int) := by omega
    cases a with
    | none =>
      have := ha rfl
      omega
    | some ad =>
      clear ha
      go_enter Try.func13, Try.ntmps13
      go_wp2
      go_ret
      exact ⟨by simp, rfl⟩

/-- A law's link, made since w: as lists, its blocks new, nothing of w turned. -/
structure St (w wr : World) (b : Nat) (S : LS) (F : Nat → Prop) : Prop where
  lk : Lk wr b S F
  news : ∀ g, F g → w.heap.size ≤ g
  below : Below w.heap.size w wr
theorem St.size {w wr : World} {b : Nat} {S : LS} {F : Nat → Prop} (h : St w wr b S F) : w.heap.size ≤ wr.heap.size := h.below.size
theorem St.step {w wr w' : World} {b : Nat} {S S' : LS} {F F' : Nat → Prop} (h : St w wr b S F) (l : Lk w' b S' F') (g : Gr F wr w' F') : St w w' b S' F' :=
  ⟨l, g.up h.news h.size, g.under h.below h.news h.size⟩
theorem St.next {w wr w' : World} {b : Nat} {S : LS} {F : Nat → Prop} (h : St w wr b S F) (k : Below wr.heap.size wr w') : St w w' b S F :=
  ⟨h.lk.next k, h.news, h.below.trans (k.mono h.size)⟩
theorem St.alloc {w wr : World} {b : Nat} {S : LS} {F : Nat → Prop} (h : St w wr b S F) (o : Obj) : St w (wr.alloc o) b S F := h.next ((Below.refl _ _).alloc (Nat.le_refl _) o)
theorem St.drewN {w wr : World} {b : Nat} {S : LS} {F : Nat → Prop} (h : St w wr b S F) (n : Nat) : St w (wr.drewN n) b S F := h.next (dn (Below.refl _ _) n)
theorem St.far {w wr : World} {b k j : Nat} {S : LS} {F : Nat → Prop} {x : Value} (h : St w wr b S F) (hk : ¬ F k) (hw : w.heap.size ≤ k) : St w (wr.setCell ⟨k, j, none⟩ x) b S F :=
  ⟨h.lk.far hk, h.news, h.below.setCell hw _⟩
theorem St.kept {w wr w' : World} {b : Nat} {S : LS} {F : Nat → Prop} {r : Option Nat} (h : St w wr b S F) (hg : wr.grownBy w' r) (hr : ∀ q, r = some q → ¬ F q ∧ w.heap.size ≤ q) : St w w' b S F :=
  ⟨h.lk.kept hg fun q e => (hr q e).1, h.news, h.below.grown hg h.size fun q e => (hr q e).2⟩
/-- A row of the law's own, beside the link's blocks. -/
def Row (e : TypeId) (k : Nat) (w wr : World) (F : Nat → Prop) (v : Value) (n : Nat) (l : List Value) : Prop := OwnK e k wr w.heap.size v n l ∧ ∀ q, v.ownBlock = some q → ¬ F q
theorem Row.nil (w wr : World) (F : Nat → Prop) (e : TypeId) (k : Nat) : Row e k w wr F (.slice none 0 0) 0 [] := ⟨OwnK.nil _ _ _ _, fun q h => by simp [Value.ownBlock] at h⟩
theorem Row.gr {e : TypeId} {k : Nat} {w wr w' : World} {F F' : Nat → Prop} {v : Value} {n : Nat} {l : List Value} (h : Row e k w wr F v n l) (g : Gr F wr w' F') : Row e k w w' F' v n l :=
  ⟨h.1.gr g h.2, fun q hq => g.off (h.2 q hq) (h.1.lt hq).2⟩
theorem Row.next {e : TypeId} {k : Nat} {w wr w' : World} {F : Nat → Prop} {v : Value} {n : Nat} {l : List Value} (h : Row e k w wr F v n l) (g : Below wr.heap.size wr w') : Row e k w w' F v n l := ⟨h.1.below g, h.2⟩
theorem Row.far {e : TypeId} {k : Nat} {w wr : World} {F : Nat → Prop} {v x : Value} {n o j : Nat} {l : List Value} (h : Row e k w wr F v n l) (ho : ∀ q, v.ownBlock = some q → q ≠ o) : Row e k w (wr.setCell ⟨o, j, none⟩ x) F v n l := by
  refine ⟨⟨h.1.1, ?_⟩, h.2⟩
  rcases h.1.2 with hn | ⟨g, cap, cur, e1, hg, hh, r⟩
  · exact Or.inl hn
  · exact Or.inr ⟨g, cap, cur, e1, hg, by rw [Below.heap_setCell wr ⟨o, j, none⟩ _ g (ho g (by rw [e1]; rfl))]; exact hh, r⟩
theorem Row.snoc {e : TypeId} {k : Nat} {w wr w' : World} {b : Nat} {S : LS} {F : Nat → Prop} {v v' : Value} {n : Nat} {l l' news : List Value} (h : Row e k w wr F v n l) (s : St w wr b S F) (o : OwnK e k w' w.heap.size v' (n + 1) l')
    (hg : (wr.alloc (.cells news.toArray e)).grownBy w' v.ownBlock) (hv : v'.ownBlock = v.ownBlock ∨ v'.ownBlock = some (wr.alloc (.cells news.toArray e)).heap.size) : Row e k w w' F v' (n + 1) l' ∧ St w w' b S F := by
  refine ⟨⟨o, own_off s.lk.lt h.2 hv (by simp)⟩, (s.alloc _).kept hg fun q hq => ⟨h.2 q hq, (h.1.lt hq).1⟩⟩
/-- A block that has just been made is none of its. -/
theorem St.off {w wr : World} {b : Nat} {S : LS} {F : Nat → Prop} (h : St w wr b S F) {k : Nat} (hk : wr.heap.size ≤ k) : ¬ F k := fun hf => by have := h.lk.lt k hf; omega
theorem Bk.set2 {v : World} {b : Nat} {y0 y1 : Value} {t : TypeId} (h : Bk v b #[y0, y1] t) (x0 x1 : Value) : Bk ((v.setCell ⟨b, 0, none⟩ x0).setCell ⟨b, 1, none⟩ x1) b #[x0, x1] t := pair_at h x0 x1
theorem op_new (w : World) (o : Opn) : Bk ((w.alloc (.cells (oc o).toArray 40)).alloc (.cells #[.int .i64 0, .int .u64 0] 35)) w.heap.size (oc o).toArray 40 ∧ Bk ((w.alloc (.cells (oc o).toArray 40)).alloc (.cells #[.int .i64 0, .int .u64 0] 35)) (w.heap.size + 1) #[.int .i64 0, .int .u64 0] 35 ∧ Below w.heap.size w ((w.alloc (.cells (oc o).toArray 40)).alloc (.cells #[.int .i64 0, .int .u64 0] 35)) := by
  refine ⟨(Bk.new _ _ _).alloc _, ?_, ((Below.refl _ _).alloc (Nat.le_refl _) _).alloc (by simp) _⟩
  have := Bk.new (w.alloc (.cells (oc o).toArray 40)) #[.int .i64 0, .int .u64 0] 35
  rwa [show (w.alloc (.cells (oc o).toArray 40)).heap.size = w.heap.size + 1 by simp] at this
set_option maxRecDepth 100000 in
set_option maxHeartbeats 8000000 in
theorem step_any {w : World} {b : Nat} {S : LS} {F : Nat → Prop} (h : Lk w b S F) (o : Opn) : Calls Try.prog 14 #[.pointer (some ⟨b, 0, none⟩), ov o] w fun e w' => ∃ F', e = .returned (.tuple #[cv (stepF S o.k o.lane o.word).2.1, .int .i64 (stepF S o.k o.lane o.word).2.2]) ∧ Lk w' b (stepF S o.k o.lane o.word).1 F' ∧ Gr F w w' F' := by
  have hlt := o.k_lt
  have KC := fun v => kind_any o v
  obtain ⟨n1, n2, n3⟩ := op_new w o
  have P0 : Hid (Bk _ w.heap.size (oc o).toArray 40) := n1
  have R0 : Hid (Bk _ (w.heap.size + 1) #[.int .i64 0, .int .u64 0] 35) := n2
  have B0 : Hid (Below w.heap.size w _) := n3
  have L0 : Hid (Lk _ b S F) := h.next n3
  have nF : ¬ F (w.heap.size + 1) := fun hf => by have := h.lt _ hf; omega
  clear n1 n2 n3 h
  generalize o.k = r at *
  obtain ⟨kd, la, wo⟩ := o
  simp only [ov, oc] at *
  go_enter Try.func14, Try.ntmps14
  go_upto_region 1 with fail
  generalize (w.alloc (.cells [Value.int .i64 kd, .int .i64 la, .int .u64 wo].toArray 40)).alloc (.cells #[.int .i64 0, .int .u64 0] 35) = v0 at *
  obtain ⟨ob, hob⟩ : ∃ x, w.heap.size = x := ⟨_, rfl⟩
  have HBW : Hid (w.heap.size = ob) := hob
  rw [hob] at P0 R0 B0 nF ⊢
  obtain ⟨cb, hcb⟩ : ∃ x, ob + 1 = x := ⟨_, rfl⟩
  rw [hcb] at R0 nF ⊢
  have hoc : ob ≤ cb := by omega
  have NF : Hid (¬ F cb) := nF
  clear hob hcb nF
  have d0 := P0.out.cell 0
  have d1 := P0.out.cell 1
  have d2 := P0.out.cell 2
  simp only [List.getElem?_toArray, List.getElem?_cons_zero, List.getElem?_cons_succ] at d0 d1 d2
  go_wp2_with fail
  go_at_call 24
  with_reducible refine (KC _).mono ?_
  rintro e w1 ⟨rfl, hb1⟩
  have P1 : Hid (Bk w1 ob [Value.int .i64 kd, .int .i64 la, .int .u64 wo].toArray 40) := P0.out.next hb1
  have R1 : Hid (Bk w1 cb #[.int .i64 0, .int .u64 0] 35) := R0.out.next hb1
  have B1 : Hid (Below ob w w1) := B0.out.trans (hb1.mono (Nat.le_of_lt P0.out.lt))
  have L1 : Hid (Lk w1 b S F) := L0.out.next hb1
  clear P0 R0 B0 L0 d0 d1 d2 KC hb1
  have nF1 : Hid (¬ F cb) := NF.out
  clear NF
  have d0 := P1.out.cell 0
  have d1 := P1.out.cell 1
  have d2 := P1.out.cell 2
  simp only [List.getElem?_toArray, List.getElem?_cons_zero, List.getElem?_cons_succ] at d0 d1 d2
  rcases (show r = 0 ∨ r = 1 ∨ r = 2 ∨ r = 3 by omega) with rfl | rfl | rfl | rfl
  · go_wp2_with fail
    go_at_call 30
    with_reducible refine (link_send L1.out la wo).mono ?_
    rintro e w2 ⟨F2, rfl, l2, g2⟩
    have nF2 : Hid (¬ F2 cb) := show ¬ F2 cb from g2.off nF1.out R1.out.lt
    have R2 : Bk w2 cb #[.int .i64 0, .int .u64 0] 35 := R1.out.gr g2 nF1.out
    have z0 := R2.free 0
    have z1 := R2.free 1
    have e0 := R2.cell 0
    have e1 := R2.cell 1
    simp only [List.getElem?_toArray, List.getElem?_cons_zero, List.getElem?_cons_succ] at e0 e1
    have L3 : Hid (Lk w2 b _ F2) := l2
    have G3 : Hid (Gr F w w2 F2) := show Gr F w w2 F2 from Gr.trans (show Gr F w w1 F from ⟨B1.out.os, B1.out.tape, B1.out.output, B1.out.size, fun k hk _ => B1.out.block k (by have := HBW.out; omega), fun _ h => Or.inl h⟩) g2
    have YY := R2.set2 (.int .i64 0) (.int .u64 0)
    have y0 := YY.cell 0
    have y1 := YY.cell 1
    simp only [List.getElem?_toArray, List.getElem?_cons_zero, List.getElem?_cons_succ] at y0 y1
    clear YY R2 l2 g2 L1 R1 nF1 P1 B1
    simp only at *
    go_wp2
    refine bodyPost_ret (v := .tuple #[.agg #[.int .i64 0, .int .u64 0], .int .i64 (sendF S la wo).2]) (by simp [results, Try.results14, go_sem, y0, y1]; try rfl) rfl ⟨F2, rfl, (L3.out.far nF2.out).far nF2.out, (G3.out.setNew (by have := HBW.out; omega)).setNew (by have := HBW.out; omega)⟩
  · go_wp2_with fail
    go_at_call 26
    with_reducible refine (link_carry L1.out).mono ?_
    rintro e w2 ⟨F2, rfl, l2, g2⟩
    have nF2 : Hid (¬ F2 cb) := show ¬ F2 cb from g2.off nF1.out R1.out.lt
    have R2 : Bk w2 cb #[.int .i64 0, .int .u64 0] 35 := R1.out.gr g2 nF1.out
    have z0 := R2.free 0
    have z1 := R2.free 1
    have e0 := R2.cell 0
    have e1 := R2.cell 1
    simp only [List.getElem?_toArray, List.getElem?_cons_zero, List.getElem?_cons_succ] at e0 e1
    have L3 : Hid (Lk w2 b _ F2) := l2
    have G3 : Hid (Gr F w w2 F2) := show Gr F w w2 F2 from Gr.trans (show Gr F w w1 F from ⟨B1.out.os, B1.out.tape, B1.out.output, B1.out.size, fun k hk _ => B1.out.block k (by have := HBW.out; omega), fun _ h => Or.inl h⟩) g2
    have YY := R2.set2 (.int .i64 (carryF S).2.1.lane) (.int .u64 (carryF S).2.1.word)
    have y0 := YY.cell 0
    have y1 := YY.cell 1
    simp only [List.getElem?_toArray, List.getElem?_cons_zero, List.getElem?_cons_succ] at y0 y1
    clear YY R2 l2 g2 L1 R1 nF1 P1 B1
    simp only at *
    go_wp2
    refine bodyPost_ret (v := .tuple #[cv (carryF S).2.1, .int .i64 (carryF S).2.2]) (by simp [results, Try.results14, go_sem, y0, y1]; try rfl) rfl ⟨F2, rfl, (L3.out.far nF2.out).far nF2.out, (G3.out.setNew (by have := HBW.out; omega)).setNew (by have := HBW.out; omega)⟩
  · go_wp2_with fail
    go_at_call 27
    with_reducible refine (link_taken L1.out la).mono ?_
    rintro e w2 ⟨F2, rfl, l2, g2⟩
    have nF2 : Hid (¬ F2 cb) := show ¬ F2 cb from g2.off nF1.out R1.out.lt
    have R2 : Bk w2 cb #[.int .i64 0, .int .u64 0] 35 := R1.out.gr g2 nF1.out
    have z0 := R2.free 0
    have z1 := R2.free 1
    have e0 := R2.cell 0
    have e1 := R2.cell 1
    simp only [List.getElem?_toArray, List.getElem?_cons_zero, List.getElem?_cons_succ] at e0 e1
    have L3 : Hid (Lk w2 b _ F2) := l2
    have G3 : Hid (Gr F w w2 F2) := show Gr F w w2 F2 from Gr.trans (show Gr F w w1 F from ⟨B1.out.os, B1.out.tape, B1.out.output, B1.out.size, fun k hk _ => B1.out.block k (by have := HBW.out; omega), fun _ h => Or.inl h⟩) g2
    have YY := R2.set2 (.int .i64 0) (.int .u64 0)
    have y0 := YY.cell 0
    have y1 := YY.cell 1
    simp only [List.getElem?_toArray, List.getElem?_cons_zero, List.getElem?_cons_succ] at y0 y1
    clear YY R2 l2 g2 L1 R1 nF1 P1 B1
    simp only at *
    go_wp2
    refine bodyPost_ret (v := .tuple #[.agg #[.int .i64 0, .int .u64 0], .int .i64 (takenF S la).2]) (by simp [results, Try.results14, go_sem, y0, y1]; try rfl) rfl ⟨F2, rfl, (L3.out.far nF2.out).far nF2.out, (G3.out.setNew (by have := HBW.out; omega)).setNew (by have := HBW.out; omega)⟩
  · go_wp2_with fail
    go_at_call 28
    with_reducible refine (link_credit L1.out).mono ?_
    rintro e w2 ⟨F2, rfl, l2, g2⟩
    have nF2 : Hid (¬ F2 cb) := show ¬ F2 cb from g2.off nF1.out R1.out.lt
    have R2 : Bk w2 cb #[.int .i64 0, .int .u64 0] 35 := R1.out.gr g2 nF1.out
    have z0 := R2.free 0
    have z1 := R2.free 1
    have e0 := R2.cell 0
    have e1 := R2.cell 1
    simp only [List.getElem?_toArray, List.getElem?_cons_zero, List.getElem?_cons_succ] at e0 e1
    have L3 : Hid (Lk w2 b _ F2) := l2
    have G3 : Hid (Gr F w w2 F2) := show Gr F w w2 F2 from Gr.trans (show Gr F w w1 F from ⟨B1.out.os, B1.out.tape, B1.out.output, B1.out.size, fun k hk _ => B1.out.block k (by have := HBW.out; omega), fun _ h => Or.inl h⟩) g2
    have YY := R2.set2 (.int .i64 0) (.int .u64 0)
    have y0 := YY.cell 0
    have y1 := YY.cell 1
    simp only [List.getElem?_toArray, List.getElem?_cons_zero, List.getElem?_cons_succ] at y0 y1
    clear YY R2 l2 g2 L1 R1 nF1 P1 B1
    simp only at *
    go_wp2
    refine bodyPost_ret (v := .tuple #[.agg #[.int .i64 0, .int .u64 0], .int .i64 (creditF S).2]) (by simp [results, Try.results14, go_sem, y0, y1]; try rfl) rfl ⟨F2, rfl, (L3.out.far nF2.out).far nF2.out, (G3.out.setNew (by have := HBW.out; omega)).setNew (by have := HBW.out; omega)⟩
end Go.Proofs.Ytihfekcdghmkhaa

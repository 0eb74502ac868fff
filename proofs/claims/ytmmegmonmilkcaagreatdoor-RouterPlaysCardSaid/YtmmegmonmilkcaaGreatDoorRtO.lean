/-
  A law's router since a world; which lanes may be sent on, as functions; some config.
  A step of a law's: its kind, the first 120 steps, which lanes may be sent on.
-/
import Derived.Test.YtmmegmonmilkcaaGreatDoorRtObj
import Derived.Shelf.Abstract

namespace Go.Proofs.YtmmegmonmilkcaaGreatDoor
open Go.RowKit
structure RSt (w wr : World) (b : Nat) (c : G.Cf) (S : RS) (F : Nat → Prop) : Prop where
 rt : Rt wr b c S F
 news : ∀ g, F g → w.heap.size ≤ g
 below : Below w.heap.size w wr
section
variable {w wr w' : World} {b k j : Nat} {c : G.Cf} {S S' : RS} {F F' : Nat → Prop} {x : Value} {r : Option Nat}
theorem RSt.size (h : RSt w wr b c S F) : w.heap.size ≤ wr.heap.size := h.below.size
theorem RSt.step (h : RSt w wr b c S F) (l : Rt w' b c S' F') (g : Gr F wr w' F') : RSt w w' b c S' F' := ⟨l, g.up h.news h.size, g.under h.below h.news h.size⟩
theorem RSt.next (h : RSt w wr b c S F) (k : Below wr.heap.size wr w') : RSt w w' b c S F := ⟨h.rt.next k, h.news, h.below.trans (k.mono h.size)⟩
theorem RSt.alloc (h : RSt w wr b c S F) (o : Obj) : RSt w (wr.alloc o) b c S F := h.next ((Below.refl _ _).alloc (Nat.le_refl _) o)
theorem RSt.kept (h : RSt w wr b c S F) (hg : wr.grownBy w' r) (hr : ∀ q, r = some q → ¬ F q ∧ w.heap.size ≤ q) : RSt w w' b c S F := ⟨h.rt.kept hg fun q e => (hr q e).1, h.news, h.below.grown hg h.size fun q e => (hr q e).2⟩
theorem RSt.off (h : RSt w wr b c S F) (hk : wr.heap.size ≤ k) : ¬ F k := fun hf => by have := h.rt.lt k hf; omega
theorem RSt.tabs (h : RSt w wr b c S F) (hT : G.Tabs w) : G.Tabs wr := hT.next h.below
theorem RSt.steps (h : RSt w wr b c S F) (hS : G.Steps w) : G.Steps wr := hS.next h.below
end
theorem gr_cell {F F' : Nat → Prop} {w w' : World} {g j : Nat} {x : Value} (k : Gr F w w' F') (hg : g < w.heap.size) (ho : ¬ F g) (hc : w.cell? ⟨g, j, none⟩ = some x) : w'.cell? ⟨g, j, none⟩ = some x := by
 rw [World.cell?_of_block (k.block g hg ho)]
 exact hc
theorem all_ent : Ent 31 := enters_of Tryz.func31 (by kernel_rfl) rfl
theorem all_any (l : Int) (w : World) : Calls Tryz.prog 31 #[.int .i64 l] w fun e w' => e = .returned (.bool true) ∧ Below w.heap.size w w' := by
 go_enter Tryz.func31, Tryz.ntmps31
 go_wp2
 go_ret
 exact ⟨rfl, Below.refl _ _⟩
theorem all_may (w : World) : May w 31 #[] fun _ => true := ⟨all_ent, fun l v _ _ _ => all_any l v⟩
theorem some_any (w : World) : Calls Tryz.prog 37 #[] w fun e w' => e = .returned (.agg (zq5 2 1 1 2 1 1 1 false false)) ∧ Below w.heap.size w w' := by
 go_enter Tryz.func37, Tryz.ntmps37
 go_wp2
 exact bodyPost_ret (v := .agg (zq5 2 1 1 2 1 1 1 false false)) (by simp [results, Tryz.results37, go_sem]) rfl ⟨rfl, (Below.refl _ _).alloc (Nat.le_refl _) _⟩
end Go.Proofs.YtmmegmonmilkcaaGreatDoor

namespace Go.Proofs.YtmmegmonmilkcaaGreatDoor
open Go.RowKit
def rst (n : Int) (m : Nat) : Nat := (IntKind.u64.wrap n % (m : Int)).toNat
theorem rst_in (n : Int) {m : Nat} (h0 : 0 < m) (h1 : m ≤ 65536) : rst n m < m ∧ IntKind.i64.wrap ((IntKind.u64.wrap n).tmod (m : Int)) = (rst n m : Int) := by
 have a0 : 0 ≤ IntKind.u64.wrap n := by rw [IntKind.wrap_u64]; exact Int.emod_nonneg _ (by decide)
 have e : (IntKind.u64.wrap n).tmod (m : Int) = IntKind.u64.wrap n % (m : Int) := Int.tmod_eq_emod_of_nonneg a0
 have a1 := Int.emod_nonneg (IntKind.u64.wrap n) (show (m : Int) ≠ 0 by omega)
 have a2 := Int.emod_lt_of_pos (IntKind.u64.wrap n) (show (0 : Int) < (m : Int) by omega)
 unfold rst
 rw [e, IntWalk.i64_in _ (by omega)]
 omega
theorem rst_eq (n : Int) {m : Nat} (h0 : 0 < m) (h1 : m ≤ 65536) : wrap64 ((IntKind.u64.wrap n).tmod (m : Int)) = (rst n m : Int) := (IntWalk.i64_left _).symm.trans (rst_in n h0 h1).2
def tb (l : List Bool) : List Value := l.map .bool
theorem tb_at (l : List Bool) (k : Nat) (h : k < l.length) : (tb l)[k]? = some (.bool (l.getD k false)) := by
 unfold tb
 rw [List.getElem?_map, List.getElem?_eq_getElem h, List.getD_eq_getElem?_getD, List.getElem?_eq_getElem h]
 rfl
structure Opn where
 kd : Int
 p : Int
 l : Int
 n : Int
 s : Int
 cc : Bool
 ha : Option Addr
 hcap : Nat
 hs : List (Int × Int)
 x : ByteArray
 ma : Option Addr
 mcap : Nat
 my : List Bool
abbrev oc (o : Opn) : Array Value := (zq9 o.kd o.p o.l o.n o.s o.cc o.ha o.hs.length o.hcap o.x o.ma o.my.length o.mcap)
abbrev ov (o : Opn) : Value := .agg (oc o)
def Opn.k (o : Opn) : Nat := rst o.kd 4
theorem Opn.k_lt (o : Opn) : o.k < 4 := (rst_in o.kd (m := 4) (by decide) (by decide)).1
structure Opn.In (w : World) (o : Opn) : Prop where
 hr : Rd w o.ha (pc o.hs)
 hm : o.hs.length ≤ maxLen
 mr : Rd w o.ma (tb o.my)
 mm : o.my.length ≤ maxLen
 xm : o.x.size ≤ maxLen
 n1 : -9223372036854775808 ≤ o.n
 n2 : o.n ≤ 9223372036854775807
theorem Opn.In.next {w w' : World} {o : Opn} (h : o.In w) (hb : Below w.heap.size w w') : o.In w' := ⟨h.hr.below hb, h.hm, h.mr.below hb, h.mm, h.xm, h.n1, h.n2⟩
def mayB (L : List Bool) (l : Int) : Bool := decide (0 ≤ l) && (decide (l < (L.length : Int)) && L.getD l.toNat false)
theorem opkind_any (o : Opn) (w : World) : Calls Tryz.prog 15 #[ov o] w fun e w' => e = .returned (.int .i64 (o.k : Int)) ∧ Below w.heap.size w w' := by
 have k2 : wrap64 ((IntKind.u64.wrap o.kd).tmod 4) = ((rst o.kd 4 : Nat) : Int) := rst_eq o.kd (m := 4) (by decide) (by decide)
 unfold Opn.k
 generalize rst o.kd 4 = r at *
 obtain ⟨kd, p, l, n, s, cc, ha, hcap, hs, x, ma, mcap, my⟩ := o
 simp only [ov, oc] at *
 generalize hs.length = h1 at *
 generalize my.length = m1 at *
 have B0 : Hid (Below w.heap.size w (w.alloc (.cells (zq9 kd p l n s cc ha h1 hcap x ma m1 mcap) 42))) := (Below.refl _ _).alloc (Nat.le_refl _) _
 have K2 : Hid (wrap64 ((IntKind.u64.wrap kd).tmod 4) = (r : Int)) := k2
 clear k2
 go_enter Tryz.func15, Tryz.ntmps15
 go_wp2
 go_ret
 exact ⟨by rw [← K2.out]; rfl, B0.out⟩
theorem early_any (a : Option Addr) (n c : Nat) (w : World) (hn : n ≤ c) (hc : c ≤ maxLen) (ha : a = none → c = 0) : Calls Tryz.prog 14 #[.slice a n c] w fun e w' => e = .returned (.slice a (min n 120) c) ∧ w = w' := by
 unfold maxLen at hc
 by_cases h : n ≤ 120
 ·rw [Nat.min_eq_left h]
  have e1 : (n : Int) ≤ 120 := by omega
  have e2 : (n : Int) ≤ (c : Int) := by omega
  cases a with
  | none =>
   obtain rfl := ha rfl
   obtain rfl : n = 0 := by omega
   go_enter Tryz.func14, Tryz.ntmps14
   go_wp2
   go_ret
   exact ⟨rfl, rfl⟩
  | some ad =>
   clear ha
   go_enter Tryz.func14, Tryz.ntmps14
   go_wp2
   go_ret
   exact ⟨by simp, rfl⟩
 ·rw [Nat.min_eq_right (by omega)]
  have e1 : ¬ (n : Int) ≤ 120 := by omega
  have e2 : (120 : Int) ≤ (c : Int) := by omega
  cases a with
  | none =>
   have := ha rfl
   omega
  | some ad =>
   clear ha
   go_enter Tryz.func14, Tryz.ntmps14
   go_wp2
   go_ret
   exact ⟨by simp, rfl⟩
theorem may_ent : Ent 72 := enters_of Tryz.func72 (by kernel_rfl) rfl
theorem may1_any (L : List Bool) (l : Int) (b : Nat) (a : Option Addr) (cap : Nat) (v : World) (_hb : b < v.heap.size) (h8 : v.cell? ⟨b, 8, none⟩ = some (.slice a L.length cap)) (hr : Rd v a (tb L)) (_hL : L.length ≤ maxLen) (l1 : -9223372036854775808 ≤ l) (l2 : l ≤ 9223372036854775807) :
  Calls Tryz.prog 72 #[.int .i64 l, .pointer (some ⟨b, 0, none⟩)] v fun e v' => e = .returned (.bool (mayB L l)) ∧ Below v.heap.size v v' := by
 by_cases c1 : 0 ≤ l ∧ l < (L.length : Int)
 ·obtain ⟨k, rfl⟩ : ∃ k : Nat, l = (k : Int) := ⟨l.toNat, by omega⟩
  have hk : k < L.length := by omega
  have hm : mayB L (k : Int) = L.getD k false := by
   unfold mayB
   rw [decide_eq_true c1.1, decide_eq_true c1.2]
   simp
  obtain ⟨g, o, rfl, hg, hc⟩ := hr k _ (tb_at L k hk)
  rw [hm]
  generalize L.getD k false = y at *
  generalize L.length = nl at *
  have e1 : (0 : Int) ≤ (k : Int) := by omega
  have e2 : (k : Int) < (nl : Int) := by omega
  clear c1 hm hr
  go_enter Tryz.func72, Tryz.ntmps72
  go_wp2_with fail
  go_ret
  exact ⟨rfl, Below.refl _ _⟩
 ·have hm : mayB L l = false := by
   unfold mayB
   by_cases c2 : 0 ≤ l
   ·rw [decide_eq_false (show ¬ l < (L.length : Int) from fun c => c1 ⟨c2, c⟩)]
    simp
   ·rw [decide_eq_false c2]
    simp
  rw [hm]
  generalize L.length = nl at *
  clear hm hr
  by_cases c2 : 0 ≤ l
  ·have e2 : ¬ l < (nl : Int) := fun c => c1 ⟨c2, c⟩
   clear c1
   go_enter Tryz.func72, Tryz.ntmps72
   go_wp2_with fail
   go_ret
   exact ⟨rfl, Below.refl _ _⟩
  ·clear c1
   go_enter Tryz.func72, Tryz.ntmps72
   go_wp2_with fail
   go_ret
   exact ⟨rfl, Below.refl _ _⟩
theorem may_any (o : Opn) (w : World) (ho : o.In w) : Calls Tryz.prog 25 #[ov o] w fun e w' => ∃ b, e = .returned (.func (.func 72) #[] #[.pointer (some ⟨b, 0, none⟩)]) ∧ May w' 72 #[.pointer (some ⟨b, 0, none⟩)] (mayB o.my) ∧ Below w.heap.size w w' := by
 have hmf : ∀ (fn : Fn) (first cap : Array Value) (w : World), (Instr.makeFunc fn first cap).run Tryz.prog w = .ok (.func fn first cap) w := fun _ _ _ _ => rfl
 have N0 : Bk (w.alloc (.cells (oc o) 42)) w.heap.size (oc o) 42 := Bk.new _ _ _
 have B0 : Hid (Below w.heap.size w (w.alloc (.cells (oc o) 42))) := (Below.refl _ _).alloc (Nat.le_refl _) _
 have MY : Hid (May (w.alloc (.cells (oc o) 42)) 72 #[.pointer (some ⟨w.heap.size, 0, none⟩)] (mayB o.my)) := show May _ _ _ _ from ⟨may_ent, fun l v l1 l2 hb => may1_any o.my l w.heap.size o.ma o.mcap v (N0.next hb).lt (by rw [(N0.next hb).cell]; rfl) ((ho.mr.below B0.out).below hb) ho.mm l1 l2⟩
 clear N0 ho
 obtain ⟨kd, p, l, n, s, cc, ha, hcap, hs, x, ma, mcap, my⟩ := o
 simp only [ov, oc] at *
 go_enter Tryz.func25, Tryz.ntmps25
 go_wp2
 go_ret
 exact ⟨_, rfl, MY.out, B0.out⟩
def OpsIn (w : World) (a : Option Addr) (R : List Opn) : Prop := ∀ (j : Nat), j < R.length → ∃ g o x, a = some ⟨g, o, none⟩ ∧ g < w.heap.size ∧ R[j]? = some x ∧ x.In w ∧ ∀ i, i < 9 → w.cell? ⟨g, o + j * 9 + i, none⟩ = (oc x)[i]?
theorem OpsIn.next {w w' : World} {a : Option Addr} {R : List Opn} (h : OpsIn w a R) (hb : Below w.heap.size w w') : OpsIn w' a R := by
 intro j hj
 obtain ⟨g, o, x, e, hg, hx, hi, hc⟩ := h j hj
 exact ⟨g, o, x, e, Nat.lt_of_lt_of_le hg hb.size, hx, hi.next hb, fun i h9 => (hb.cell (p := ⟨g, o + j * 9 + i, none⟩) hg).trans (hc i h9)⟩
end Go.Proofs.YtmmegmonmilkcaaGreatDoor

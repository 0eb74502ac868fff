/-
  The program's router: what layers 6, 8 and 4 tell; the object as lists, its blocks; what a step keeps.
-/
import Derived.Test.YtmmegmonmilkcaaGreatDoorRtMem
import Derived.Test.YtmmegmonmilkcaaGreatDoorCut
import Derived.Test.YtmmegmonmilkcaaGreatDoorGrid
namespace Go.Proofs.YtmmegmonmilkcaaGreatDoor
open Go.RowKit

/-- The port that layers 6 and 8 tell of a flit. -/
def telR (c : G.Cf) (node : Int) (f : Fl) (ch : Int) : Int := if f.c = true then G.stp c node f.d else G.chP (G.opt c node f.d) ch
/-- The class of a lane, as numbers. -/
def clsR (c : G.Cf) (k : Nat) : Nat × Nat := ((G.cla c (c.ca && decide ((k : Int) = c.l - 1))).1.toNat, (G.cla c (c.ca && decide ((k : Int) = c.l - 1))).2.toNat)
/-- A moved word: its cells. -/
abbrev mvc (o : KO) (a b : Nat) : Array Value := #[.int .i64 o.port, .int .i64 o.lane, .int .u64 (o.word : Int), .bool o.copy, .bool o.ends, .int .i64 (a : Int), .int .i64 (b : Int)]
abbrev zmvc : Array Value := #[.int .i64 0, .int .i64 0, .int .u64 0, .bool false, .bool false, .int .i64 0, .int .i64 0]
/-- One that tells which lanes may be sent on. -/
def May (w : World) (g : Nat) (lb : Array Value) (m : Int → Bool) : Prop := Ent g ∧ ∀ (l : Int) (v : World), -9223372036854775808 ≤ l → l ≤ 9223372036854775807 → Below w.heap.size w v → Calls Tryz.prog g (#[.int .i64 l] ++ lb) v fun e v' => e = .returned (.bool (m l)) ∧ Below v.heap.size v v'
theorem May.next {w v : World} {g : Nat} {lb : Array Value} {m : Int → Bool} (h : May w g lb m) (hb : Below w.heap.size w v) : May v g lb m := ⟨h.1, fun l u h1 h2 hu => h.2 l u h1 h2 (hb.trans (hu.mono hb.size))⟩
/-- A router: its block, its config, what it is as lists, its blocks. -/
def Rt (w : World) (b : Nat) (c : G.Cf) (S : RS) (F : Nat → Prop) : Prop := ROk S ∧ G.chk c = 0 ∧ (S.n : Int) = c.l ∧ ∃ Y, RtAt w b c S Y ∧ F = fpr Y
section
variable {w : World} {b : Nat} {c : G.Cf} {S : RS} {F : Nat → Prop}
theorem Rt.ok (h : Rt w b c S F) : ROk S := h.1
theorem Rt.chk (h : Rt w b c S F) : G.chk c = 0 := h.2.1
theorem Rt.n (h : Rt w b c S F) : (S.n : Int) = c.l := h.2.2.1
theorem Rt.lt (h : Rt w b c S F) : ∀ g, F g → g < w.heap.size := by
  obtain ⟨_, _, _, Y, h, rfl⟩ := h
  exact h.at_.lt
theorem Rt.kept {w' : World} {r : Option Nat} (h : Rt w b c S F) (hg : w.grownBy w' r) (hr : ∀ q, r = some q → ¬ F q) : Rt w' b c S F := by
  obtain ⟨ok, h1, h2, Y, h, rfl⟩ := h
  exact ⟨ok, h1, h2, Y, h.keep hg.size fun g hf => hg.block g (h.at_.lt g hf) fun e => hr g e.symm hf, rfl⟩
theorem Rt.next {w' : World} (h : Rt w b c S F) (hb : Below w.heap.size w w') : Rt w' b c S F := h.kept (r := none) ⟨hb.os, hb.tape, hb.output, hb.size, fun k hk _ => hb.block k hk⟩ (fun _ e => by cases e)
theorem Rt.far {k j : Nat} {x : Value} (h : Rt w b c S F) (hk : ¬ F k) : Rt (w.setCell ⟨k, j, none⟩ x) b c S F := h.kept (r := some k) ⟨rfl, rfl, rfl, by simp, fun i _ hne => Below.heap_setCell w ⟨k, j, none⟩ x i fun e => hne (by rw [e])⟩ (fun _ e => by cases e; exact hk)
end
/-- A port's place in the router's block. -/
theorem rtc_port (c : G.Cf) (node : Int) (Y : Lay) (n : Nat) {p : Nat} (hp : p < 5) : ∀ j, j < 4 → (rtc c node Y n)[10 + p * 4 + j]? = (ptc Y n p)[j]? := by
  intro j hj
  match p, hp, j, hj with
  | 0, _, 0, _ => rfl
  | 0, _, 1, _ => rfl
  | 0, _, 2, _ => rfl
  | 0, _, 3, _ => rfl
  | 1, _, 0, _ => rfl
  | 1, _, 1, _ => rfl
  | 1, _, 2, _ => rfl
  | 1, _, 3, _ => rfl
  | 2, _, 0, _ => rfl
  | 2, _, 1, _ => rfl
  | 2, _, 2, _ => rfl
  | 2, _, 3, _ => rfl
  | 3, _, 0, _ => rfl
  | 3, _, 1, _ => rfl
  | 3, _, 2, _ => rfl
  | 3, _, 3, _ => rfl
  | 4, _, 0, _ => rfl
  | 4, _, 1, _ => rfl
  | 4, _, 2, _ => rfl
  | 4, _, 3, _ => rfl
theorem RtAt.port {w : World} {b : Nat} {c : G.Cf} {S : RS} {Y : Lay} (h : RtAt w b c S Y) {p : Nat} (hp : p < 5) :
    w.cell? ⟨b, 10 + p * 4, none⟩ = some (.slice (some ⟨Y.lb p, 0, none⟩) S.n (Y.lc p)) ∧ w.cell? ⟨b, 10 + p * 4 + 1, none⟩ = some (.slice (some ⟨Y.ob p, 0, none⟩) S.n S.n) ∧ w.cell? ⟨b, 10 + p * 4 + 2, none⟩ = some (.pointer (some ⟨Y.gb p, 0, none⟩)) ∧ w.cell? ⟨b, 10 + p * 4 + 3, none⟩ = some (.pointer (some ⟨Y.mb p, 0, none⟩)) :=
  ⟨(h.blk.cell _).trans (rtc_port c S.node Y S.n hp 0 (by decide)), (h.blk.cell _).trans (rtc_port c S.node Y S.n hp 1 (by decide)), (h.blk.cell _).trans (rtc_port c S.node Y S.n hp 2 (by decide)), (h.blk.cell _).trans (rtc_port c S.node Y S.n hp 3 (by decide))⟩
/-- Its config and node. -/
theorem RtAt.conf {w : World} {b : Nat} {c : G.Cf} {S : RS} {Y : Lay} (h : RtAt w b c S Y) :
    w.cell? ⟨b, 0, none⟩ = some (.int .i64 c.w) ∧ w.cell? ⟨b, 1, none⟩ = some (.int .i64 c.h) ∧ w.cell? ⟨b, 2, none⟩ = some (.int .i64 c.l) ∧ w.cell? ⟨b, 3, none⟩ = some (.int .i64 c.d) ∧ w.cell? ⟨b, 4, none⟩ = some (.int .i64 c.r) ∧ w.cell? ⟨b, 5, none⟩ = some (.int .i64 c.i) ∧ w.cell? ⟨b, 6, none⟩ = some (.int .i64 c.b) ∧ w.cell? ⟨b, 7, none⟩ = some (.bool c.we) ∧ w.cell? ⟨b, 8, none⟩ = some (.bool c.ca) ∧ w.cell? ⟨b, 9, none⟩ = some (.int .i64 S.node) :=
  ⟨(h.blk.cell 0).trans rfl, (h.blk.cell 1).trans rfl, (h.blk.cell 2).trans rfl, (h.blk.cell 3).trans rfl, (h.blk.cell 4).trans rfl, (h.blk.cell 5).trans rfl, (h.blk.cell 6).trans rfl, (h.blk.cell 7).trans rfl, (h.blk.cell 8).trans rfl, (h.blk.cell 9).trans rfl⟩
/-- A lane's place. -/
theorem in_nat {S : RS} {p l : Int} (h : inRt S p l = true) : ∃ P L : Nat, p = (P : Int) ∧ l = (L : Int) ∧ P < 5 ∧ L < S.n ∧ ixRt S p l = P * S.n + L := by
  obtain ⟨h1, h2, h3, h4⟩ := inRt_iff.1 h
  exact ⟨p.toNat, l.toNat, by omega, by omega, by omega, by omega, rfl⟩
end Go.Proofs.YtmmegmonmilkcaaGreatDoor

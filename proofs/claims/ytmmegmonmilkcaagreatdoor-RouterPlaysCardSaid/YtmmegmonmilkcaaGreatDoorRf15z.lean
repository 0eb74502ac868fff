/-
 The law RouterPlays: the program's router beside the document's value, and the law's own boxes. No walk in it.
-/
import Derived.Test.YtmmegmonmilkcaaGreatDoorRfA
import Derived.Test.YtmmegmonmilkcaaGreatDoorRtWord
import Derived.Test.YtmmegmonmilkcaaGreatDoorRtLives
namespace Go.Proofs.YtmmegmonmilkcaaGreatDoor
open Go.RowKit
theorem wpList_load_bk_g {P : Program} {ops : Array Oper} {rest : List Oper} {o : Oper} {a : Act} {w : World} {Q : Exit → Act → World → Prop} (hw : Region.wanted o (yielded ops a.tmps) = true) (ty : TypeId) (x : Operand) (ho : o.op = .load ty x)
  (g : Nat) (hx : a.eval x = .pointer (some ⟨g, 0, none⟩)) {t : TypeId} {cs : Array Value} (d : TypeDesc) (hg : Bk w g cs t)
  (hu : P.underlying ty = some d) (hd : (match d with | .struct _ | .array _ _ => true | _ => false) = true) (hi : (P.info? ty).map (·.size) = some cs.size)
  (h : wpList P ops Q rest (a.put o.dst (.agg cs)) w) : wpList P ops Q (o :: rest) a w := by
 refine wpList_step fun K hK => ?_
 rw [if_pos hw]
 exact wp_load_row ty x ho g hx t cs (0, 0) d hg hu hd hi (hK _ _ h)
theorem DR.agg {w : World} {c : G.Cf} {S : RS} {v : Value} {D : Nat → Prop} (h : DR w c S v D) : ∃ cs, v = .agg cs ∧ cs.size = 14 ∧ cs.toList.all (·.oneCell') = true := by
 obtain ⟨L, g1, g2, g3, g4, c1, c2, c3, c4, rfl, -⟩ := h
 exact ⟨_, rfl, rfl, rfl⟩
theorem DR.on {w w' : World} {c : G.Cf} {S : RS} {v : Value} {D : Nat → Prop} {q : Nat} (h : DR w c S v D) (k : On q w w') (hq : ¬ D q) : DR w' c S v D := by
 obtain ⟨L, g1, g2, g3, g4, c1, c2, c3, c4, e, e1, r, ⟨d1, d2, d3, d4⟩, x⟩ := h
 have off : ∀ g, D g → g ≠ q := fun g hg e => hq (e ▸ hg)
 refine ⟨L, g1, g2, g3, g4, c1, c2, c3, c4, e, e1, r.keep ?_, ⟨d1, d2, d3, d4⟩, fun y hy => ⟨(x y hy).1.on k fun hw a ha => off _ ((x y hy).2 hw a ha), (x y hy).2⟩⟩
 rintro g (rfl | rfl | rfl | rfl)
 ·exact k.out.block _ r.a1.lt fun e => off _ d1 (Option.some.inj e)
 ·exact k.out.block _ r.a2.lt fun e => off _ d2 (Option.some.inj e)
 ·exact k.out.block _ r.a3.lt fun e => off _ d3 (Option.some.inj e)
 ·exact k.out.block _ r.a4.lt fun e => off _ d4 (Option.some.inj e)
theorem bk_ne {w : World} {g q : Nat} {cs ds : Array Value} {t u : TypeId} (h : Bk w g cs t) (k : Bk w q ds u) (hne : t ≠ u) : g ≠ q := by
 rintro rfl
 have h1 : w.heap[g]? = _ := h
 have h2 : w.heap[g]? = _ := k
 rw [h1] at h2
 injection h2 with h2
 injection h2 with _ h2
 exact hne h2
structure ZS (w4 wr : World) (b wx ob A : Nat) (c2 : G.Cf) (S S' : RS) (F D : Nat → Prop) (cs ds : Array Value) (x : Opn) : Prop where
 rt : RSt w4 wr b c2 S F
 dr : DR wr c2 S' (.agg cs) D
 dd : ∀ g, D g → ¬ F g ∧ g ≠ wx
 bx : Bk wr wx ds 34
 op : Bk wr ob (oc x) 42
 cf : Bk wr A (G.cfc c2) 23
 nw : w4.heap.size ≤ wx
 nf : ¬ F wx ∧ ¬ F ob ∧ ¬ F A
abbrev stD (F : Nat → Prop) (wx : Nat) : Nat → Prop := fun g => ¬ F g ∧ g ≠ wx
section
variable {w4 wr u : World} {b wx ob A q : Nat} {c2 : G.Cf} {S S' S1 : RS} {F F1 D : Nat → Prop} {cs ds cs1 : Array Value} {x : Opn}
theorem ZS.lt (h : ZS w4 wr b wx ob A c2 S S' F D cs ds x) : ∀ g, F g → g < wr.heap.size := h.rt.rt.lt
theorem ZS.next (h : ZS w4 wr b wx ob A c2 S S' F D cs ds x) (k : Below wr.heap.size wr u) : ZS w4 u b wx ob A c2 S S' F D cs ds x :=
 ⟨h.rt.next k, h.dr.next k, h.dd, h.bx.next k, h.op.next k, h.cf.next k, h.nw, h.nf⟩
theorem ZS.cut (h : ZS w4 wr b wx ob A c2 S S' F D cs ds x) : ZS w4 wr b wx ob A c2 S S' F (fun g => D g ∧ g < wr.heap.size) cs ds x :=
 ⟨h.rt, h.dr.mono fun _g hl hd => ⟨hd, hl⟩, fun g hg => h.dd g hg.1, h.bx, h.op, h.cf, h.nw, h.nf⟩
theorem ZS.std (h : ZS w4 wr b wx ob A c2 S S' F D cs ds x) : ZS w4 wr b wx ob A c2 S S' F (stD F wx) cs ds x :=
 ⟨h.rt, h.dr.mono fun g _ hd => h.dd g hd, fun _g hg => hg, h.bx, h.op, h.cf, h.nw, h.nf⟩
theorem ZS.doc (h : ZS w4 wr b wx ob A c2 S S' F D cs ds x) (d : DR u c2 S1 (.agg cs1) (fun g => D g ∨ wr.heap.size ≤ g)) (k : Below wr.heap.size wr u) : ZS w4 u b wx ob A c2 S S1 F (fun g => D g ∨ wr.heap.size ≤ g) cs1 ds x :=
 ⟨h.rt.next k, d, fun g hg => by
  rcases hg with hg | hg
  ·exact h.dd g hg
  ·exact ⟨fun hf => by have := h.lt g hf; omega, by have := h.bx.lt; omega⟩, h.bx.next k, h.op.next k, h.cf.next k, h.nw, h.nf⟩
theorem ZS.box (h : ZS w4 wr b wx ob A c2 S S' F D cs ds x) (k : On q wr u) (hd : ¬ D q) (hf : ¬ F q) (h0 : w4.heap.size ≤ q) (h1 : wx ≠ q) (h2 : ob ≠ q) (h3 : A ≠ q) : ZS w4 u b wx ob A c2 S S' F D cs ds x :=
 ⟨h.rt.kept k.out (fun r e => by cases e; exact ⟨hf, h0⟩), h.dr.on k hd, h.dd, h.bx.on k h1, h.op.on k h2, h.cf.on k h3, h.nw, h.nf⟩
theorem ZS.put (h : ZS w4 wr b wx ob A c2 S S' F D cs ds x) (k : On wx wr u) (hb : Bk u wx cs1 34) : ZS w4 u b wx ob A c2 S S' F D cs cs1 x :=
 ⟨h.rt.kept k.out (fun r e => by cases e; exact ⟨h.nf.1, h.nw⟩), h.dr.on k (fun hd => (h.dd _ hd).2 rfl), h.dd, hb, h.op.on k (bk_ne h.op h.bx (by decide)), h.cf.on k (bk_ne h.cf h.bx (by decide)), h.nw, h.nf⟩
theorem ZS.prog (h : ZS w4 wr b wx ob A c2 S S' F D cs ds x) (n : Rt u b c2 S1 F1) (g : Gr F wr u F1) : ZS w4 u b wx ob A c2 S1 S' F1 (fun k => D k ∧ k < wr.heap.size) cs ds x := by
 have hx : Gr (fun k => ¬ (D k ∧ k < wr.heap.size)) wr u (fun k => ¬ (D k ∧ k < wr.heap.size)) := ⟨g.os, g.tape, g.output, g.size, fun k hk hn => g.block k hk fun hf => hn fun hd => (h.dd k hd.1).1 hf, fun k hk => Or.inl hk⟩
 have d := (h.dr.mono (D' := fun k => ¬ ¬ (D k ∧ k < wr.heap.size)) fun k hl hk e => e ⟨hk, hl⟩).gr hx
 exact ⟨h.rt.step n g, d.mono fun k _ hk => Classical.not_not.1 hk, fun k hk => ⟨g.off (h.dd k hk.1).1 hk.2, (h.dd k hk.1).2⟩, h.bx.gr g h.nf.1, h.op.gr g h.nf.2.1, h.cf.gr g h.nf.2.2, h.nw, g.off h.nf.1 h.bx.lt, g.off h.nf.2.1 h.op.lt, g.off h.nf.2.2 h.cf.lt⟩
theorem ZS.fresh {o : Obj} (h : ZS w4 wr b wx ob A c2 S S' F D cs ds x) (k : On wr.heap.size (wr.alloc o) u) : ZS w4 u b wx ob A c2 S S' F (stD F wx) cs ds x := (h.next (below_new k)).std
theorem ZS.fresh2 {o o2 : Obj} {v : World} (h : ZS w4 wr b wx ob A c2 S S' F D cs ds x) (k : On wr.heap.size ((wr.alloc o).alloc o2) v) (k2 : On (wr.heap.size + 1) v u) : ZS w4 u b wx ob A c2 S S' F (stD F wx) cs ds x := (h.next (below_new2 k k2)).std
end
structure PS (w4 wr : World) (b wx : Nat) (c2 : G.Cf) (S : RS) (F : Nat → Prop) (cs : Array Value) : Prop where
 rt : RSt w4 wr b c2 S F
 dr : DR wr c2 S (.agg cs) (stD F wx)
 bx : Bk wr wx cs 34
 nw : w4.heap.size ≤ wx
 nf : ¬ F wx
section
variable {w4 wr u : World} {b wx ob A q : Nat} {c2 : G.Cf} {S : RS} {F D : Nat → Prop} {cs : Array Value} {x : Opn}
theorem PS.next (h : PS w4 wr b wx c2 S F cs) (k : Below wr.heap.size wr u) : PS w4 u b wx c2 S F cs := ⟨h.rt.next k, h.dr.next k, h.bx.next k, h.nw, h.nf⟩
theorem PS.zs (h : PS w4 wr b wx c2 S F cs) (op : Bk wr ob (oc x) 42) (cf : Bk wr A (G.cfc c2) 23) (h1 : ¬ F ob) (h2 : ¬ F A) : ZS w4 wr b wx ob A c2 S S F (stD F wx) cs cs x :=
 ⟨h.rt, h.dr, fun _ hg => hg, h.bx, op, cf, h.nw, h.nf, h1, h2⟩
theorem ZS.ps (h : ZS w4 wr b wx ob A c2 S S F D cs cs x) : PS w4 wr b wx c2 S F cs := ⟨h.rt, h.std.dr, h.bx, h.nw, h.nf.1⟩
end
theorem DR.sz {w : World} {c : G.Cf} {S : RS} {cs : Array Value} {D : Nat → Prop} (h : DR w c S (.agg cs) D) : cs.size = 14 ∧ cs.toList.all (·.oneCell') = true := by
 obtain ⟨cs', e, h1, h2⟩ := h.agg
 cases e
 exact ⟨h1, h2⟩
theorem Tryz.outFields15 : Tryz.prog.underlying 61 = some (.struct (Tryz.prog.fieldsOf 61)) := by kernel_rfl
theorem Tryz.outHeld15 : Tryz.prog.stoodInHeld 61 = false := by kernel_rfl
theorem Tryz.outGuard15 : Tryz.prog.eqGuardType Tryz.prog.depth 61 = false := by kernel_rfl
theorem run_eq_out (p l y : Int) (c e : Bool) (w : World) : (binOp .eql 61 (.agg (zq4 p l y c e)) (.agg (zq4 p l y c e))).run Tryz.prog w = .ok (.bool true) w := by
 have u3 := Tryz.underlying3
 have u4 := Tryz.underlying4
 have u5 := Tryz.underlying47
 have a3 := Tryz.isAgg3
 have z3 := Tryz.sizeOf3
 have a4 := Tryz.isAgg4
 have z4 := Tryz.sizeOf4
 have a5 := Tryz.isAgg47
 have z5 := Tryz.sizeOf47
 have G := Tryz.outGuard15
 rw [run_eql_struct, show (10000 : Nat) = 9999 + 1 from rfl, run_equalIn_agg w 9999 61 _ _ Tryz.outFields15 Tryz.outHeld15]
 simp only [Program.fieldsOf, Tryz.underlying61]
 go_simp
end Go.Proofs.YtmmegmonmilkcaaGreatDoor

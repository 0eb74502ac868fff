/-
 What the listed tables and the world's shape give the walks; the frame that hands both on.
-/
import Derived.Test.YtmmegmonmilkcaaGreatDoorRows
import Derived.Test.YtmmegmonmilkcaaGreatDoorGrid
import Derived.Test.YtmmegmonmilkcaaGreatDoorRtA
import Derived.Test.YtmmegmonmilkcaaGreatDoorTie
import Derived.Test.YtmmegmonmilkcaaGreatDoorCards
import Derived.ProofKit
import Derived.HandedShaped
import Derived.LaidMore
import Derived.LaidLaws
import Derived.Lib.LaidTab
import Derived.Shelf.Vars
import Derived.ChangeMaps5
import Derived.SevenTiedAt
namespace Go.Proofs.YtmmegmonmilkcaaGreatDoor
open Go Go.ChangeShapes Go.WideShapes Go.ChangeAt Go.RowKit Go.Lib
section
variable {H : Type} {enc : TypeId × Value → H}
theorem returns_and_shaped {a : Assume} {C : Checked} {os : Os} {f : FuncId} {fn : Func} {s : ChangeSpec} {conds : List PathCond} {apart fresh handsOn again : Bool} {X : World → Array Value → Prop}
  (hX : ∀ (w w' : World) (args : Array Value), w.heap = w'.heap → X w args → X w' args)
  (own : ownKnob C.prog.godebug = none) (started : os.Started) (noInit : C.prog.inits.idxOf? f = none) (hfn : C.prog.funcs[f]? = some fn)
  (witness : ∃ (w : World) (tape : Tape) (i : Input), w.os = os ∧ (w.forCall tape i).Shaped C.prog ∧ i.vars = [] ∧ Input.okWide C.prog (w.forCall tape i) .any w.heap.size f i ∧
   ((s.pre enc C.prog fn conds apart (w.forCall tape i).memory i.args ∧ X (w.forCall tape i).memory i.args) ∧ sizedMet enc C.prog fn (OpenSpec.ofChange s) apart (w.forCall tape i).memory i.args) ∧ a.holds C.prog (lone (Frame.enter C.prog f i.args .normal) [] (w.forCall tape i)))
  (contract : ∀ (W : World) (base : Nat) (args : Array Value) (ds gs : List (DataW H)) (before : List MemPlace),
   (∀ (j : Nat) t v, fn.params[j]? = some t → args[j]? = some v → Value.okWide C.prog W .any base t v) →
   DataW.Whole enc C.prog fn.params.toList s.vars apart W args.toList ds gs before →
   conds.all (PathCond.test C.prog ⟨fn.params.toList, ds, s.plain.varTypes C.prog, gs⟩) = true →
   (DataW.weightsEach C.prog (fn.params.toList ++ s.plain.varTypes C.prog) (ds ++ gs)).all (· ≤ reachBytes) = true → X W args →
   W.ShapedOpen C.prog →
   a.holds C.prog (lone (Frame.enter C.prog f args .normal) [] W) →
   Calls C.prog f args W fun e W' => ∃ v, e = .returned v ∧ s.post enc C.prog fn apart fresh handsOn again W args v W') :
  ReturnsInHanded a C os f .any (fun w args => (s.pre enc C.prog fn conds apart w args ∧ X w args) ∧ sizedMet enc C.prog fn (OpenSpec.ofChange s) apart w args) (s.post enc C.prog fn apart fresh handsOn again) := by
 refine returnsInHanded_of_calls own started noInit witness ?_
 intro w tape i _ hsh _ hok hpre hholds
 obtain ⟨_, _, _, fn', hfn', _, _, _, _, hval⟩ := hok
 have e : fn' = fn := Option.some.inj (hfn'.symm.trans hfn)
 subst e
 obtain ⟨⟨⟨ds, gs, before, hw, hc⟩, hx⟩, hz⟩ := hpre
 have hw' := DataW.Whole.of_heap (w' := w.forCall tape i) (by rfl) hw
 refine (contract (w.forCall tape i) w.heap.size i.args ds gs before hval hw' hc (hz.weights hw) (hX _ _ _ (by rfl) hx) hsh hholds).mono fun e W' ⟨v, he, hp⟩ => ?_
 subst he
 exact ChangeSpec.post_blind hp
end
abbrev lst3 : List (String × DataW Unit) := Rows.routerPlaysRow.laid
theorem part_of {H : Type} {enc : TypeId × Value → H} {P : Program} {w : World} {base : Nat} {sp : Nat → Bool} {held : Bool} {fuel : Nat} {t e : TypeId} {n m : Nat} {cs : List Value} {ds : List (DataW H)} {p : List MemPlace}
  (ht : P.underlying t = some (.array n e)) (hce : P.cellsOf e = m) (h : DataW.trod enc P w base sp held fuel t cs = some (.agg ds, p)) :
  ∀ (i : Nat) (d : DataW H), ds[i]? = some d → ∃ f q, DataW.trod enc P w base sp held f e ((cs.drop (i * m)).take m) = some (d, q) := by
 cases fuel with
 | zero => simp [DataW.trod] at h
 | succ fuel =>
  simp only [DataW.trod, ht, hce] at h
  split at h
  ·rename_i hl
   obtain ⟨xs, hm, hx⟩ := Option.map_eq_some_iff.1 h
   have hds : xs.map (·.1) = ds := by
    have := congrArg Prod.fst hx
    simpa using this
   intro i d hd
   rw [← hds, List.getElem?_map, Option.map_eq_some_iff] at hd
   obtain ⟨x, hx1, rfl⟩ := hd
   have hil : i < xs.length := (List.getElem?_eq_some_iff.mp hx1).1
   have hxl : xs.length = n := by simpa using mapM_length hm
   obtain ⟨b, hb, hf⟩ := mapM_at hm i i (by rw [List.getElem?_range (by omega)])
   rw [hx1] at hb
   obtain rfl := Option.some.inj hb
   exact ⟨fuel, _, hf⟩
  ·cases h
theorem two_of {cs : List Value} {i : Nat} {a b : Value} (h : (cs.drop (i * 2)).take 2 = [a, b]) : cs[i * 2]? = some a ∧ cs[i * 2 + 1]? = some b := by
 have h0 := congrArg (·[0]?) h
 have h1 := congrArg (·[1]?) h
 simp [List.getElem?_drop] at h0 h1
 exact ⟨h0, h1⟩
theorem size_of {W : World} (hsh : W.ShapedOpen Tryz.prog) : 2 < W.heap.size := by
 obtain ⟨cs, hc, _⟩ := hsh.1 2 #[.int .i64 0, .int .i64 0, .int .i64 0] 200 (by decide +kernel) (by kernel_rfl)
 rcases Nat.lt_or_ge 2 W.heap.size with h | h
 ·exact h
 ·rw [Array.getElem?_eq_none h] at hc
  cases hc
theorem steps_at {W : World} {g : Nat} {t : TypeId} {cs : Array Value} {f : Nat} {p : List MemPlace} {enc : TypeId × Value → Unit} {base : Nat} {sp : Nat → Bool} {held : Bool} (hsz : 2 ≤ W.heap.size)
  (hg : Tryz.prog.globalNamed "reticule/grid.steps" = some g) (ht : (Tryz.prog.globals[g]?).map (·.type) = some t) (hv : W.var? Tryz.prog "reticule/grid.steps" = some cs)
  (hd : DataW.trod enc Tryz.prog W base sp held f t cs.toList = some (Rows.laid_reticule_grid_steps, p)) : G.Steps W := by
 obtain rfl : g = 0 := Option.some.inj (hg.symm.trans (by kernel_rfl))
 obtain rfl : t = 195 := Option.some.inj (ht.symm.trans (by kernel_rfl))
 have c := World.var?_cell hg hv
 have P := part_of (n := 5) (e := 87) (m := 2) Tryz.underlying195 (by kernel_rfl) hd
 have Q : ∀ i a b, (∃ f q, DataW.trod enc Tryz.prog W base sp held f 87 ((cs.toList.drop (i * 2)).take 2) = some (tabData .i64 [a, b], q)) → cs.toList[i * 2]? = some (.int .i64 a) ∧ cs.toList[i * 2 + 1]? = some (.int .i64 b) := fun i a b ⟨f, q, h⟩ => two_of (cells_of_tab (n := 2) Tryz.underlying87 Tryz.underlying3 (by kernel_rfl) (by kernel_rfl) h)
 have q0 := Q 0 0 0 (P 0 _ rfl)
 have q1 := Q 1 1 0 (P 1 _ rfl)
 have q2 := Q 2 (-1) 0 (P 2 _ rfl)
 have q3 := Q 3 0 1 (P 3 _ rfl)
 have q4 := Q 4 0 (-1) (P 4 _ rfl)
 have k : ∀ j x, cs.toList[j]? = some x → W.cell? ⟨0, j, none⟩ = some x := fun j x h => by
  rw [c j]
  simpa using h
 exact ⟨hsz, k 0 _ q0.1, k 1 _ q0.2, k 2 _ q1.1, k 3 _ q1.2, k 4 _ q2.1, k 5 _ q2.2, k 6 _ q3.1, k 7 _ q3.2, k 8 _ q4.1, k 9 _ q4.2⟩
theorem three_at {W : World} {nm : String} {g0 g : Nat} {t : TypeId} {cs : Array Value} {f : Nat} {p : List MemPlace} {enc : TypeId × Value → Unit} {base : Nat} {sp : Nat → Bool} {held : Bool} {a b c : Int} {D : DataW Unit}
  (hg0 : Tryz.prog.globalNamed nm = some g0) (ht0 : (Tryz.prog.globals[g0]?).map (·.type) = some 200) (hD : D = tabData .i64 [a, b, c])
  (hg : Tryz.prog.globalNamed nm = some g) (ht : (Tryz.prog.globals[g]?).map (·.type) = some t) (hv : W.var? Tryz.prog nm = some cs)
  (hd : DataW.trod enc Tryz.prog W base sp held f t cs.toList = some (D, p)) : W.cell? ⟨g0, 0, none⟩ = some (.int .i64 a) ∧ W.cell? ⟨g0, 1, none⟩ = some (.int .i64 b) ∧ W.cell? ⟨g0, 2, none⟩ = some (.int .i64 c) := by
 obtain rfl : g = g0 := Option.some.inj (hg.symm.trans hg0)
 obtain rfl : t = 200 := Option.some.inj (ht.symm.trans ht0)
 subst hD
 have q := World.var?_cell hg hv
 have e := cells_of_tab (k := .i64) (zs := [a, b, c]) (n := 3) Tryz.underlying200 Tryz.underlying3 (by kernel_rfl) (by kernel_rfl) hd
 have k : ∀ j x, cs.toList[j]? = some x → W.cell? ⟨g, j, none⟩ = some x := fun j x h => by
  rw [q j]
  simpa using h
 rw [e] at k
 exact ⟨k 0 _ rfl, k 1 _ rfl, k 2 _ rfl⟩
theorem tabs_of3 {W : World} (h : laidMetH Tryz.prog lst3 W) (hsh : W.ShapedOpen Tryz.prog) : G.Steps W ∧ G.Tabs W := by
 rw [MakeChecks.laidMetH_plain _ _ _ (by kernel_rfl)] at h
 obtain ⟨ps, ⟨g, t, cs, f, p, q, hg, ht, hv, hd, ⟨g0, t0, cs0, f0, p0, q0, hg0, ht0, hv0, hd0, ⟨g1, t1, cs1, f1, p1, q1, hg1, ht1, hv1, hd1, _, _⟩, _⟩, _⟩, _, _⟩ := h
 exact ⟨steps_at (Nat.le_trans (by decide) (size_of hsh)) hg ht hv hd, size_of hsh, three_at (by kernel_rfl) (by kernel_rfl) rfl hg0 ht0 hv0 hd0, three_at (by kernel_rfl) (by kernel_rfl) rfl hg1 ht1 hv1 hd1, trivial⟩
theorem door_met3 (os : Os) (args : Array Value) : laidMetH Tryz.prog lst3 ((World.doorLaid Tryz.prog 29 os).forCall (fun _ _ => 0) ⟨#[], args, []⟩).memory :=
 laidMetH_of_parts3 (fuel := 8) (laidMet_of_run' 8 (by kernel_rfl) (by kernel_rfl)) (by kernel_rfl) (by kernel_rfl)
end Go.Proofs.YtmmegmonmilkcaaGreatDoor

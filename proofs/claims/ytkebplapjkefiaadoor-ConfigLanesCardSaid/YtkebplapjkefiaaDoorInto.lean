/-
  The walk of config.readInto.
-/
import Derived.Test.YtkebplapjkefiaaDoorText
namespace Go.Proofs.YtkebplapjkefiaaDoor
open Go.RowKit Go.Lib

def setAt (c : Cf) (o : Nat) (n : Int) : Cf :=
  match o with
  | 0 => { c with w := n }
  | 1 => { c with h := n }
  | 2 => { c with l := n }
  | 3 => { c with d := n }
  | 4 => { c with r := n }
  | 5 => { c with i := n }
  | _ => { c with b := n }
def setAll (c : Cf) : List Nat → List Int → Cf
  | o :: os, n :: ns => setAll (setAt c o n) os ns
  | _, _ => c
theorem setAll_snoc : ∀ (os : List Nat) (ns : List Int) (c : Cf) (o : Nat) (n : Int), os.length = ns.length → setAll c (os ++ [o]) (ns ++ [n]) = setAt (setAll c os ns) o n
  | [], [], _, _, _, _ => rfl
  | [], _ :: _, _, _, _, h => by cases h
  | _ :: _, [], _, _, _, h => by cases h
  | a :: os, b :: ns, c, o, n, h => by
    simp only [List.cons_append, setAll]
    exact setAll_snoc os ns _ o n (by simpa using h)

/-- Block b holds this config. -/
def Blk (v : World) (b : Nat) (c : Cf) : Prop := v.heap[b]? = some (.cells (cfc c) 23 (0, 0))
theorem Blk.cell {v : World} {b : Nat} {c : Cf} (h : Blk v b c) (j : Nat) : v.cell? ⟨b, j, none⟩ = (cfc c)[j]? := cell_of h j
theorem Blk.free {v : World} {b : Nat} {c : Cf} (h : Blk v b c) (j : Nat) : v.frozen? ⟨b, j, none⟩ = false := by
  unfold Blk at h
  simp [World.frozen?, h]
theorem Blk.lt {v : World} {b : Nat} {c : Cf} (h : Blk v b c) : b < v.heap.size := lt_of_heap h
theorem Blk.below {v v' : World} {b : Nat} {c : Cf} (h : Blk v b c) (hb : Below v.heap.size v v') : Blk v' b c := by
  unfold Blk
  rw [hb.block b h.lt]
  exact h
theorem Blk.set {v : World} {b : Nat} {c : Cf} (h : Blk v b c) (o : Nat) (ho : o < 7) (n : Int) : Blk (v.setCell ⟨b, o, none⟩ (.int .i64 n)) b (setAt c o n) := by
  unfold Blk at h ⊢
  rcases (by omega : o = 0 ∨ o = 1 ∨ o = 2 ∨ o = 3 ∨ o = 4 ∨ o = 5 ∨ o = 6) with rfl | rfl | rfl | rfl | rfl | rfl | rfl <;> simp [World.setCell, Array.getElem?_modify, h, setAt]
theorem Blk.num {v : World} {b : Nat} {c : Cf} (h : Blk v b c) (o : Nat) (ho : o < 7) : ∃ n : Int, v.cell? ⟨b, o, none⟩ = some (.int .i64 n) := by
  rw [h.cell]
  rcases (by omega : o = 0 ∨ o = 1 ∨ o = 2 ∨ o = 3 ∨ o = 4 ∨ o = 5 ∨ o = 6) with rfl | rfl | rfl | rfl | rfl | rfl | rfl <;> exact ⟨_, rfl⟩

/-- The places. -/
def Plc (v : World) (p b : Nat) (os : List Nat) : Prop := p < v.heap.size ∧ ∀ j o, os[j]? = some o → v.cell? ⟨p, j, none⟩ = some (.pointer (some ⟨b, o, none⟩))
theorem Plc.below {v v' : World} {p b : Nat} {os : List Nat} (h : Plc v p b os) (hb : Below v.heap.size v v') : Plc v' p b os :=
  ⟨Nat.lt_of_lt_of_le h.1 hb.size, fun j o hj => by rw [hb.cell (p := ⟨p, j, none⟩) h.1]; exact h.2 j o hj⟩
theorem Plc.set {v : World} {p b : Nat} {os : List Nat} (h : Plc v p b os) (hne : p ≠ b) (j : Nat) (x : Value) : Plc (v.setCell ⟨b, j, none⟩ x) p b os :=
  ⟨Nat.lt_of_lt_of_le h.1 (Below.setCell (Below.refl 0 v) (p := ⟨b, j, none⟩) (Nat.zero_le _) x).size, fun i o hi => by
    rw [World.cell?_of_block (w := v) (a := ⟨p, i, none⟩) (Below.heap_setCell v ⟨b, j, none⟩ x p hne)]
    exact h.2 i o hi⟩

/-- What is told of a row of numbers. -/
def Into (R : Option (List Int × L)) (b : Nat) (c : Cf) (os : List Nat) (w : World) (e : Ending) (w' : World) : Prop :=
  Below b w w' ∧ ∃ c', Blk w' b c' ∧ match R with
    | none => e = .returned (.tuple #[.string ⟨#[]⟩, .bool false])
    | some p => e = .returned (.tuple #[.string (bs p.2), .bool true]) ∧ c' = setAll c os p.1
theorem Into.no {R : Option (List Int × L)} {b : Nat} {c c' : Cf} {os : List Nat} {w w' : World} (hR : R = none) (hb : Below b w w') (hc : Blk w' b c') : Into R b c os w (.returned (.tuple #[.string ⟨#[]⟩, .bool false])) w' := by
  subst hR
  exact ⟨hb, c', hc, rfl⟩
theorem Into.yes {R : Option (List Int × L)} {b : Nat} {c : Cf} {os : List Nat} {w w' : World} {ns : List Int} {r : L} (hR : R = some (ns, r)) (hb : Below b w w') (hc : Blk w' b (setAll c os ns)) : Into R b c os w (.returned (.tuple #[.string (bs r), .bool true])) w' := by
  subst hR
  exact ⟨hb, _, hc, rfl, rfl⟩

theorem cut_le (s p : L) : (cut s p).1.length ≤ s.length ∧ (cut s p).2.1.length ≤ s.length := by
  unfold cut
  split
  · simp; omega
  · simp
theorem le_bare (s : L) : s.length ≤ (bare s).length + 1 := by
  cases s with
  | nil => simp
  | cons b r =>
    by_cases h : b = 45
    · subst h; rw [bare_min]; simp
    · rw [bare_other b r h]; simp

set_option maxRecDepth 100000 in
set_option maxHeartbeats 1000000 in
theorem into_any (x : UInt8) (s : L) (hs : s.length ≤ 1000) (os : List Nat) (n : Nat) (hn : os.length = n) (hn7 : n ≤ 7) (ho : ∀ o ∈ os, o < 7) (c : Cf) (b p : Nat) (hpb : b < p) (h6 : 6 ≤ b) (w : World) (hE : Env w) (hB : Blk w b c) (hP : Plc w p b os) :
    Calls Tryd.prog 33 #[.string (bs s), .string (bs [x]), .slice (some ⟨p, 0, none⟩) n n] w (Into (rin x n s) b c os w) := by
  have HE : Hid (Env w) := hE
  have HB : Hid (Blk w b c) := hB
  have HP : Hid (Plc w p b os) := hP
  have HO : Hid (∀ o ∈ os, o < 7) := ho
  have HN : Hid (os.length = n) := hn
  obtain ⟨R, hR⟩ : ∃ R, R = rin x n s := ⟨_, rfl⟩
  rw [← hR]
  have HR : Hid (R = rin x n s) := hR
  have HS : Hid (s.length ≤ 1000) := hs
  clear hE hB hP ho hn hR hs
  go_enter Tryd.func33, Tryd.ntmps33
  go_wp2_with fail
  go_loopw [8, 17] (fun v8 i wr => ∃ (k : Nat) (ns : List Int) (r : L), k ≤ n ∧ i = .int .i64 k ∧ v8 = .string (bs r) ∧ Hid (ns.length = k) ∧ Hid (R = (rin x (n - k) r).map fun q => (ns ++ q.1, q.2)) ∧ Hid (r.length ≤ 1000) ∧ Hid (Below b w wr) ∧ Hid (Blk wr b (setAll c (os.take k) ns)) ∧ Hid (Plc wr p b os)) (fun _ i _ => n - (RowKit.intOf i).toNat)
  case atStart => exact ⟨0, [], s, Nat.zero_le _, rfl, rfl, rfl, by show _ = _; rw [HR.out, Nat.sub_zero]; cases rin x n s <;> rfl, HS.out, Below.refl _ _, by rw [List.take_zero]; exact HB.out, HP.out⟩
  case round =>
    obtain ⟨k, ns, r, hk, rfl, rfl, HL, HQ, HRL, HW, HBK, HPL⟩ := hrel
    by_cases hlt : k < n
    · obtain ⟨o, hoo⟩ : ∃ o, os[k]? = some o := ⟨os[k]'(by have := HN.out; omega), List.getElem?_eq_getElem _⟩
      have ho7 : o < 7 := HO.out o (List.mem_of_getElem? hoo)
      have hcell := HPL.out.2 k o hoo
      have hsz : b < wr.heap.size := HBK.out.lt
      have CU := cut_any r x HRL.out wr (HE.out.below HW.out h6)
      have hcl := cut_le r [x]
      have hrin : rin x (n - k) r = if 9 < (bare (cut r [x]).1).length then none else
          match atoi (cut r [x]).1 with
          | none => none
          | some m => (rin x (n - (k + 1)) (cut r [x]).2.1).map fun q => (m :: q.1, q.2) := by
        rw [show n - k = (n - (k + 1)) + 1 by omega]
        rfl
      have HQ' : Hid (R = Option.map (fun q => (ns ++ q.1, q.2)) (if 9 < (bare (cut r [x]).1).length then none else
          match atoi (cut r [x]).1 with
          | none => none
          | some m => (rin x (n - (k + 1)) (cut r [x]).2.1).map fun q => (m :: q.1, q.2))) := by
        show R = _
        rw [← hrin]
        exact HQ.out
      have HR2 : Hid ((cut r [x]).2.1.length ≤ 1000) := by have := HRL.out; show _ ≤ _; omega
      clear hrin HQ HRL hcl
      generalize (cut r [x]).2.2 = fl at *
      generalize (cut r [x]).2.1 = r2 at *
      generalize (cut r [x]).1 = d at *
      have TR := trim_any d
      have HOO : Hid (os[k]? = some o) := hoo
      clear hoo
      go_wp2_with fail
      go_at_call 40
      refine CU.mono ?_
      rintro e w1 ⟨rfl, hb1⟩
      have HB1 : Hid (Below wr.heap.size wr w1) := hb1
      clear hb1 CU hcell hsz
      by_cases h9 : 9 < (bare d).length
      · have hq : R = none := by rw [HQ'.out, if_pos h9]; rfl
        have HQ2 : Hid (R = none) := hq
        have hsd := bs_size (bare d)
        generalize bs (bare d) = bd at *
        have h9' : (9 : Int) < (bd.size : Int) := by omega
        clear HQ' hq h9 hsd
        go_wp2_with (go_at_call 41; (with_reducible refine (TR _).mono ?_); rintro e w2 ⟨rfl, rfl⟩)
        go_ret2
        exact Into.no HQ2.out (HW.out.trans (HB1.out.mono (Nat.le_of_lt HBK.out.lt))) (HBK.out.below HB1.out)
      · have hq : R = Option.map (fun q => (ns ++ q.1, q.2)) (match atoi d with
          | none => none
          | some m => (rin x (n - (k + 1)) r2).map fun q => (m :: q.1, q.2)) := by rw [HQ'.out, if_neg h9]
        have hd18 : d.length ≤ 18 := by have := le_bare d; omega
        have hsd := bs_size (bare d)
        have HE1 : Hid (Env w1) := (HE.out.below HW.out h6).next HB1.out
        generalize bs (bare d) = bd at *
        have h9' : ¬ (9 : Int) < (bd.size : Int) := by omega
        clear HQ' h9 hsd
        cases ha : atoi d with
        | none =>
          rw [ha] at hq
          have HQ2 : Hid (R = none) := hq
          have AT := atoi_none d hd18 ha w1 HE1.out
          generalize bs d = sd at *
          clear hq ha hd18
          go_wp2_with fail
          go_at_call 41
          refine (TR _).mono ?_
          rintro e w2 ⟨rfl, rfl⟩
          go_wp2_with fail
          go_at_call 42
          refine AT.mono ?_
          rintro e w2 ⟨⟨Nn, rfl⟩, hb2⟩
          have HB2 : Hid (Below w1.heap.size w1 w2) := hb2
          clear hb2 AT
          go_wp2
          go_ret2
          have hb := HB1.out.trans (HB2.out.mono HB1.out.size)
          exact Into.no HQ2.out (HW.out.trans (hb.mono (Nat.le_of_lt HBK.out.lt))) (HBK.out.below hb)
        | some m =>
          rw [ha] at hq
          have HQ2 : Hid (R = Option.map (fun q => (ns ++ q.1, q.2)) ((rin x (n - (k + 1)) r2).map fun q => (m :: q.1, q.2))) := hq
          have AT := atoi_some d m hd18 ha w1
          generalize bs d = sd at *
          clear hq ha hd18
          go_wp2_with fail
          go_at_call 41
          refine (TR _).mono ?_
          rintro e w2 ⟨rfl, rfl⟩
          go_wp2_with fail
          go_at_call 42
          refine AT.mono ?_
          rintro e w2 ⟨rfl, hb2⟩
          have HBB : Hid (Below wr.heap.size wr w2) := HB1.out.trans (hb2.mono HB1.out.size)
          have hbk := HBK.out.below HBB.out
          have hpl := HPL.out.below HBB.out
          have hwl := HW.out.trans (HBB.out.mono (Nat.le_of_lt HBK.out.lt))
          obtain ⟨old, hold⟩ := hbk.num o ho7
          have hfree := hbk.free o
          have HX1 : Hid (Blk w2 b (setAll c (os.take k) ns)) := hbk
          have HX2 : Hid (Plc w2 p b os) := hpl
          have HX3 : Hid (Below b w w2) := hwl
          clear hb2 AT hbk hpl hwl HBK HPL HW
          go_wp2
          go_roundw
          case rel =>
            refine ⟨k + 1, ns ++ [m], r2, by omega, by go_num, rfl, ?_, ?_, HR2, ?_, ?_, ?_⟩
            · show _ = _; rw [List.length_append, HL.out]; rfl
            · show _ = _
              rw [HQ2.out, Option.map_map]
              congr 1
              funext q
              simp
            · exact HX3.out.setCell (Nat.le_refl _) _
            · show Blk _ b (setAll c (os.take (k + 1)) (ns ++ [m]))
              rw [List.take_add_one, HOO.out, Option.toList_some, setAll_snoc _ _ _ _ _ (by rw [List.length_take, HL.out, HN.out]; omega)]
              exact HX1.out.set o ho7 m
            · exact HX2.out.set (by omega) _ _
          case measure => simp [RowKit.intOf]; omega
    · obtain rfl : k = n := by omega
      have hq : R = some (ns, r) := by
        rw [HQ.out, Nat.sub_self]
        simp [rin]
      have HQ2 : Hid (R = some (ns, r)) := hq
      clear HQ hq
      go_wp2
      go_ret2
      have hbk := HBK.out
      rw [List.take_of_length_le (by have := HN.out; omega)] at hbk
      exact Into.yes HQ2.out HW.out hbk
end Go.Proofs.YtkebplapjkefiaaDoor

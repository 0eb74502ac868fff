/-
  The comparison that the sort is handed; the library's sort, Compact and Reverse over rows of the call's own; the walk of byLabel.
-/
import Derived.Test.YtcebfkkpclnmoaaDoorAre
import Derived.Test.YtcebfkkpclnmoaaDoorGr
import Derived.Test.YtcebfkkpclnmoaaDoorSMore
import Derived.Test.YtcebfkkpclnmoaaDoorShelf
import Derived.Lib.OwnBridge
import Derived.Lib.AppendIntMem
namespace Go.Proofs.YtcebfkkpclnmoaaDoor
open Go.RowKit Go.Sort

set_option maxHeartbeats 1000000 in
theorem cmpc_any (c : Cf) (x y : Int) (b : Nat) (w : World) (hb : Blk w b c) :
    Calls Tryd.prog 49 #[.int .i64 x, .int .i64 y, .pointer (some ⟨b, 0, none⟩)] w fun e w' => e = .returned (.int .i64 (cfL c x y)) ∧ Gr.Below w.heap.size w w' := by
  have K1 := Gr.label_any c x
  have K2 := Gr.label_any c y
  have K3 := Tryd.cmp_Compare_int (lb c x) (lb c y)
  change ∀ w, Calls Tryd.prog 50 _ w (fun e w' => e = .returned (.int .i64 (cfL c x y)) ∧ _) at K3
  have HB : Hid (Blk w b c) := hb
  clear hb
  generalize cfL c x y = R at *
  generalize lb c x = l1 at *
  generalize lb c y = l2 at *
  generalize ple c x = p1 at *
  generalize ple c y = p2 at *
  have x0 := HB.out.cell 0
  have x1 := HB.out.cell 1
  have x2 := HB.out.cell 2
  have x3 := HB.out.cell 3
  have x4 := HB.out.cell 4
  have x5 := HB.out.cell 5
  have x6 := HB.out.cell 6
  have x7 := HB.out.cell 7
  have x8 := HB.out.cell 8
  obtain ⟨cw, ch, cl, cd, cr, ci, cb, we, ca⟩ := c
  simp only [cfv, cfc] at *
  simp at x0 x1 x2 x3 x4 x5 x6 x7 x8
  go_enter Tryd.func49, Tryd.ntmps49
  go_wp2_with fail
  go_at_call 11
  refine (K1 _).mono ?_
  rintro e v1 ⟨rfl, hb⟩
  have HG1 : Hid (Gr.Below w.heap.size w v1) := hb
  have HB1 : Hid (Blk v1 b _) := HB.out.below hb.plain
  clear hb K1 x0 x1 x2 x3 x4 x5 x6 x7 x8
  have x0 := HB1.out.cell 0
  have x1 := HB1.out.cell 1
  have x2 := HB1.out.cell 2
  have x3 := HB1.out.cell 3
  have x4 := HB1.out.cell 4
  have x5 := HB1.out.cell 5
  have x6 := HB1.out.cell 6
  have x7 := HB1.out.cell 7
  have x8 := HB1.out.cell 8
  simp at x0 x1 x2 x3 x4 x5 x6 x7 x8
  go_wp2_with fail
  go_at_call 11
  refine (K2 _).mono ?_
  rintro e v2 ⟨rfl, hb⟩
  have HG2 : Hid (Gr.Below w.heap.size w v2) := HG1.out.trans (hb.mono HG1.out.size)
  clear hb K2 x0 x1 x2 x3 x4 x5 x6 x7 x8
  go_wp2_with fail
  go_at_call 50
  refine (K3 _).mono ?_
  rintro e v3 ⟨rfl, rfl⟩
  go_wp2
  go_ret
  exact ⟨rfl, HG2.out⟩

/-- A block that is not the row's lies as it did while the row is sorted. -/
theorem heap_sw {w : World} {g k : Nat} (m : Nat) (d : Array Int) (os : Array Obj) (hk : k < w.heap.size) (hne : k ≠ g) : (sortWorld (Value.int .i64) w g 0 m d os).heap[k]? = w.heap[k]? := by
  unfold sortWorld
  rw [heap_grow_old _ _ (by simpa using hk)]
  simp [putRow, mapBlock, Sort.ahead, Array.getElem?_modify, show g ≠ k from fun e => hne e.symm]
theorem below_sw {w : World} {g B : Nat} (m : Nat) (d : Array Int) (os : Array Obj) (hB : B ≤ g) (hs : B ≤ w.heap.size) : Below B w (sortWorld (Value.int .i64) w g 0 m d os) := by
  refine ⟨rfl, rfl, rfl, by simp [sortWorld, putRow, mapBlock, Sort.ahead], fun k hk => heap_sw m d os (by omega) (by omega)⟩
theorem cmpLays (c : Cf) (b g size : Nat) (w : World) (hb : Blk w b c) (hne : b ≠ g) :
    CmpLays1 Tryd.prog 49 #[.pointer (some ⟨b, 0, none⟩)] (Value.int .i64) (cfL c) g 0 size w := fun m os dk _ x y =>
  (cmpc_any c x y b _ (by unfold Blk; rw [heap_sw m dk os hb.lt hne]; exact hb)).mono fun _ _ ⟨he, hg⟩ => ⟨he, hg.grow⟩

/-- The numbers' row of a slice of the call's own. -/
theorem own_holds {w : World} {B : Nat} {g cap : Nat} {l : List Int} (h : Own 3 w B (.slice (some ⟨g, 0, none⟩) l.length cap) (vi l)) : B ≤ g ∧ g < w.heap.size ∧ l.length ≤ cap ∧ Holds (Value.int .i64) w g 0 l.toArray := by
  unfold Own at h
  rw [vi_len] at h
  obtain ⟨g', cap', e, h1, h2, h3, h4, h5, h6⟩ := Lib.holds_of_ownsRow (enc := Value.int .i64) (zs := l) h (by simp)
  simp only [Value.slice.injEq, Option.some.injEq, Addr.mk.injEq] at e
  obtain ⟨⟨rfl, _⟩, _, rfl⟩ := e
  exact ⟨h1, h2, h3, h6⟩
theorem own_sw {w : World} {B : Nat} {g cap : Nat} {l r : List Int} (h : Own 3 w B (.slice (some ⟨g, 0, none⟩) l.length cap) (vi l)) (hr : r.length = l.length) (m : Nat) (os : Array Obj) :
    Own 3 (sortWorld (Value.int .i64) w g 0 m r.toArray os) B (.slice (some ⟨g, 0, none⟩) l.length cap) (vi r) := by
  unfold Own at h ⊢
  rw [vi_len] at h ⊢
  have h1 := Lib.ownsRow_putRow (q := m) (k := l.length) (ys := r) (enc := Value.int .i64) h hr (Nat.le_refl _)
  rw [List.take_of_length_le (by omega)] at h1
  have h2 := Lib.ownsRow_grow h1 0 os
  rw [hr]
  exact h2

/-- The sort. -/
theorem sort_any (c : Cf) (b g cap B : Nat) (zs : List Int) (w : World) (hb : Blk w b c) (hlt : b < B) (hN : ∀ n ∈ zs, isN c n = true) (hl : zs.length ≤ 100000) (hs : B ≤ w.heap.size)
    (own : Own 3 w B (.slice (some ⟨g, 0, none⟩) zs.length cap) (vi zs)) :
    Calls Tryd.prog 48 #[.slice (some ⟨g, 0, none⟩) zs.length cap, .func (.func 49) #[] #[.pointer (some ⟨b, 0, none⟩)]] w
      fun e w' => e = .returned (.tuple #[]) ∧ Own 3 w' B (.slice (some ⟨g, 0, none⟩) zs.length cap) (vi (srt c zs)) ∧ Below B w w' := by
  obtain ⟨h1, h2, h3, h4⟩ := own_holds own
  have eg : ∀ args w, (callFunc 49 args).run Tryd.prog w = .ok (.enter 49 args) w := enters_of Tryd.func49 (by kernel_rfl) rfl
  have K := Tryd.slices_SortFunc (Value.int .i64) (fun _ => rfl) (cfL c) (swoL c) 49 #[.pointer (some ⟨b, 0, none⟩)] g 0 cap zs.toArray w eg (cmpLays c b g _ w hb (by omega)) h4 h2 (by simp; omega)
  refine Calls.mono K ?_
  rintro e w' ⟨he, d', n, os, hp, hso, rfl⟩
  have e := sorted_srt hN hp hso
  subst e
  exact ⟨he, own_sw own (srt_len c zs) n os, below_sw n _ os h1 hs⟩

/-- Compact, of a row by its labels: it is shorter where one was there twice; else all is as it was. -/
theorem compact_any (c : Cf) (g cap B : Nat) (zs : List Int) (w : World) (hN : ∀ n ∈ zs, isN c n = true) (hl : zs.length ≤ 100000) (_hs : B ≤ w.heap.size)
    (own : Own 3 w B (.slice (some ⟨g, 0, none⟩) zs.length cap) (vi (srt c zs))) :
    Calls Tryd.prog 51 #[.slice (some ⟨g, 0, none⟩) zs.length cap] w
      fun e w' => ∃ L : Nat, e = .returned (.slice (some ⟨g, 0, none⟩) L cap) ∧ L ≤ 100000 ∧ decide ((L : Int) < zs.length) = !(decide zs.Nodup) ∧ Below B w w' ∧ (zs.Nodup → Own 3 w' B (.slice (some ⟨g, 0, none⟩) zs.length cap) (vi (srt c zs))) := by
  have hsl := srt_len c zs
  rw [← hsl] at own
  obtain ⟨h1, h2, h3, h4⟩ := own_holds own
  have K := Tryd.slices_Compact_int g 0 cap (srt c zs) w h4 (by omega) h3
  rw [hsl] at K
  refine Calls.mono K ?_
  rintro e w' ⟨he, q, rfl⟩
  have hle := Lib.compact_length_le (srt c zs)
  have htw := twice_iff hN
  refine ⟨_, he, by omega, ?_, ?_, ?_⟩
  · by_cases hd : zs.Nodup
    · have : ¬ (Lib.compact (srt c zs)).length < zs.length := fun h => htw.1 h hd
      simp [hd, this]
    · have := htw.2 hd
      simp [hd, this]
  · exact Lib.below_putRow (Below.refl _ _) h1
  · intro hd
    have hn : ¬ (Lib.compact (srt c zs)).length < zs.length := fun h => htw.1 h hd
    have hk : ∀ j, j < (srt c zs).length → Lib.keeps (srt c zs).toArray j = true := by
      intro j hj
      cases hk : Lib.keeps (srt c zs).toArray j with
      | true => rfl
      | false =>
        exfalso
        have := (keeps_len (srt c zs).toArray (srt c zs).length).2 ⟨j, hj, hk⟩
        exact hn (by rw [← hsl]; exact this)
    have e := Lib.compact_all (srt c zs) hk
    rw [e, hsl, Nat.sub_self, List.replicate_zero, List.append_nil]
    have o := own_sw own (r := srt c zs) rfl q #[]
    unfold sortWorld at o
    rw [grow_empty, hsl] at o
    exact o

/-- Reverse, of a row of the call's own: no other block is turned. -/
theorem reverse_any (v : Value) (B : Nat) (l : List Int) (w : World) (hl : l.length ≤ 100000) (hs : B ≤ w.heap.size) (own : Own 3 w B v (vi l)) :
    Calls Tryd.prog 38 #[v] w fun e w' => e = .returned (.tuple #[]) ∧ Own 3 w' B v (vi l.reverse) ∧ Below B w w' ∧ w.heap.size ≤ w'.heap.size ∧ (∀ k, v.ownBlock ≠ some k → w'.heap[k]? = w.heap[k]?) := by
  by_cases h0 : l.length = 0
  · have : l = [] := List.eq_nil_of_length_eq_zero h0
    subst this
    obtain ⟨a, cap, rfl, _⟩ := own.rd
    refine Calls.mono (Tryd.slices_Reverse_int_empty a cap w) ?_
    rintro e w' ⟨he, rfl⟩
    exact ⟨he, own, Below.refl _ _, Nat.le_refl _, fun _ _ => rfl⟩
  · obtain ⟨g, cap, e, _⟩ := own.form (by rw [vi_len]; omega)
    subst e
    rw [vi_len] at own ⊢
    obtain ⟨h1, h2, h3, h4⟩ := own_holds own
    refine Calls.mono (Tryd.slices_Reverse_int g 0 cap l w h4 (by omega)) ?_
    rintro e w' ⟨he, q, rfl⟩
    have o := own_sw own (r := l.reverse) (List.length_reverse) q #[]
    unfold sortWorld at o
    rw [grow_empty] at o
    refine ⟨he, o, Lib.below_putRow (Below.refl _ _) h1, by simp [putRow, mapBlock, Sort.ahead], fun k hk => ?_⟩
    have hne : g ≠ k := fun e => hk (by simp [Value.ownBlock, e])
    simp [putRow, mapBlock, Sort.ahead, Array.getElem?_modify, hne]

theorem RdA.form {w : World} {a : Option Addr} {l : List Int} (h : RdA w a (vi l)) (h0 : 0 < l.length) : ∃ g o, a = some ⟨g, o, none⟩ ∧ g < w.heap.size ∧ ∀ j, j < l.length → w.cell? ⟨g, o + j, none⟩ = some (.int .i64 (l.getD j 0)) := by
  obtain ⟨g, o, e, hg, _⟩ := h 0 _ (vi_at h0)
  refine ⟨g, o, e, hg, fun j hj => ?_⟩
  obtain ⟨g', o', e', _, hc⟩ := h j _ (vi_at hj)
  rw [e] at e'
  simp only [Option.some.injEq, Addr.mk.injEq] at e'
  obtain ⟨rfl, rfl, _⟩ := e'
  exact hc

/-- What byLabel tells. -/
def ByL (c : Cf) (zs : List Int) (w : World) (e : Ending) (w' : World) : Prop :=
  ∃ v, e = .returned (.tuple #[v, .bool (stB' c zs)]) ∧ Below w.heap.size w w' ∧ (stB' c zs = true → Own 3 w' w.heap.size v (vi (srt c zs)))
theorem ByL.no {c : Cf} {zs : List Int} {w w' : World} {v : Value} (h : stB' c zs = false) (hb : Below w.heap.size w w') : ByL c zs w (.returned (.tuple #[v, .bool false])) w' :=
  ⟨v, by rw [h], hb, fun h' => by rw [h] at h'; cases h'⟩
theorem ByL.yes {c : Cf} {zs : List Int} {w w' : World} {v : Value} (h : stB' c zs = true) (hb : Below w.heap.size w w') (o : Own 3 w' w.heap.size v (vi (srt c zs))) : ByL c zs w (.returned (.tuple #[v, .bool true])) w' :=
  ⟨v, by rw [h], hb, fun _ => o⟩

set_option maxRecDepth 100000 in
set_option maxHeartbeats 1000000 in
theorem byLabel_any (c : Cf) (s : Option Addr) (zs : List Int) (cap : Nat) (w : World) (hl : zs.length ≤ 1000) (hr : RdA w s (vi zs)) :
    Calls Tryd.prog 37 #[cfv c, .slice s zs.length cap] w (ByL c zs w) := by
  have A0 : Hid (At w c (w.alloc (.cells (cfc c) 23))) := At.start w c
  by_cases h0 : zs.length = 0
  · have e : stB' c zs = false := by
      have : zs = [] := List.eq_nil_of_length_eq_zero h0
      unfold stB'
      simp [this]
    have HE : Hid (stB' c zs = false) := e
    clear e hr hl
    rw [h0]
    clear h0
    obtain ⟨cw, ch, cl, cd, cr, ci, cb, we, ca⟩ := c
    simp only [cfv, cfc] at *
    go_enter Tryd.func37, Tryd.ntmps37
    go_wp2
    go_ret2
    exact ByL.no HE.out A0.out.below
  · have KA := fun v h => areNodes_any c s zs cap v (by omega) h
    have hne : zs ≠ [] := fun e => h0 (by rw [e]; rfl)
    cases ha : areN c zs with
    | false =>
      have e : stB' c zs = false := by unfold stB'; rw [ha]; simp
      have HE : Hid (stB' c zs = false) := e
      have K := KA _ (hr.alloc (.cells (cfc c) 23))
      rw [ha] at K
      have hz : ((zs.length : Int) == 0) = false := by simp; omega
      clear e KA ha hr hl hne h0
      generalize hn : zs.length = n at *
      clear hn
      obtain ⟨cw, ch, cl, cd, cr, ci, cb, we, ca⟩ := c
      simp only [cfv, cfc] at *
      go_enter Tryd.func37, Tryd.ntmps37
      go_wp2_with fail
      go_at_call 40
      refine K.mono ?_
      rintro e v1 ⟨rfl, hb⟩
      have HA1 : Hid (At w _ v1) := A0.out.trans hb
      clear hb K
      go_wp2
      go_ret2
      exact ByL.no HE.out HA1.out.below
    | true =>
      have hN := areN_iff.1 ha
      have K := KA _ (hr.alloc (.cells (cfc c) 23))
      rw [ha] at K
      obtain ⟨g0, o0, rfl, hg0, hc0⟩ := hr.form (by omega)
      have HC : Hid (∀ j, j < zs.length → w.cell? ⟨g0, o0 + j, none⟩ = some (.int .i64 (zs.getD j 0))) := hc0
      have eS : stB' c zs = decide zs.Nodup := by unfold stB'; rw [ha]; simp [hne]
      have HE : Hid (stB' c zs = decide zs.Nodup) := eS
      have KC := fun v h => Tryd.slices_Clone_int g0 o0 zs.length cap zs v (Nat.le_refl _) (by omega) h
      have KS := fun b g cap2 B v h1 h2 h3 h4 => sort_any c b g cap2 B zs v h1 h2 hN (by omega) h3 h4
      have KP := fun g cap2 B v h1 h2 => compact_any c g cap2 B zs v hN (by omega) h1 h2
      have hz : ((zs.length : Int) == 0) = false := by simp; omega
      have HP : Hid (∀ v v', (Own 3 v' (w.heap.size + 1) v (vi (srt c zs))) → At w c v' → zs.Nodup → ByL c zs w (.returned (.tuple #[v, .bool true])) v') := fun v v' o h hd => ByL.yes (by rw [HE.out]; simp [hd]) h.below (o.mono (by omega))
      have HQ : Hid (∀ v v', At w c v' → ¬ zs.Nodup → ByL c zs w (.returned (.tuple #[v, .bool false])) v') := fun v v' h hd => ByL.no (by rw [HE.out]; simp [hd]) h.below
      have HT : Hid (zs.take zs.length = zs) := List.take_length
      clear KA ha hr hne h0 hN hc0 eS HE
      obtain ⟨n, hn⟩ : ∃ n, zs.length = n := ⟨_, rfl⟩
      have HV : Hid (((zs.take n).map (Value.int .i64)) = vi zs) := by rw [← hn, HT.out]; rfl
      rw [hn] at K KC KS KP hz HC ⊢
      have HBK : Hid (∀ v, At w c v → Blk v w.heap.size c) := fun v h => by
        have hb : Below (w.heap.size + 1) (w.alloc (.cells (cfc c) 23)) v := h
        unfold Blk
        rw [hb.block _ (by omega)]
        exact Blk.new w c
      have HLN : Hid ((vi zs).length = n) := by show (vi zs).length = n; rw [vi_len]; exact hn
      have hn1 : n ≤ 1000 := by rw [← hn]; exact hl
      clear HT hn hl
      obtain ⟨cw, ch, cl, cd, cr, ci, cb, we, ca⟩ := c
      simp only [cfv, cfc] at *
      go_enter Tryd.func37, Tryd.ntmps37
      go_wp2_with fail
      go_at_call 40
      refine K.mono ?_
      rintro e v1 ⟨rfl, hb⟩
      have HA1 : Hid (At w _ v1) := A0.out.trans hb
      clear hb K A0
      have KC := KC v1 (fun j hj => (HA1.out.below.cell (p := ⟨g0, o0 + j, none⟩) hg0).trans (HC.out j (by omega)))
      clear HC hg0
      go_wp2_with fail
      go_at_call 47
      refine KC.mono ?_
      rintro e v2 ⟨v', rfl, own, hnn, hb⟩
      have HA2 : Hid (At w _ v2) := HA1.out.trans hb
      obtain ⟨g, cap2, rfl, hg1, hg2, hc1, hc2, hz2, hh⟩ := Lib.holds_of_ownsRow own hnn
      have own2 : Own 3 v2 (w.heap.size + 1) (.slice (some ⟨g, 0, none⟩) n cap2) (vi zs) := by
        have o3 : v2.ownsRow v1.heap.size 3 1 (.slice (some ⟨g, 0, none⟩) n cap2) n (vi zs) := by rw [← HV.out]; exact own
        have o4 : Own 3 v2 v1.heap.size (.slice (some ⟨g, 0, none⟩) n cap2) (vi zs) := by unfold Own; rw [HLN.out]; exact o3
        exact o4.mono HA1.out.size
      have KS := KS w.heap.size g cap2 (w.heap.size + 1) v2 (HBK.out v2 HA2.out) (by omega) HA2.out.size own2
      clear hb KC own hnn hh HV own2 HBK hz2
      go_wp2_with fail
      go_at_call 48
      refine KS.mono ?_
      rintro e v3 ⟨rfl, own3, hb⟩
      have HA3 : Hid (At w _ v3) := Below.trans HA2.out hb
      have KP := KP g cap2 (w.heap.size + 1) v3 HA3.out.size own3
      clear hb KS own3 HA1
      go_wp2_with fail
      go_at_call 51
      refine KP.mono ?_
      rintro e v4 ⟨L, rfl, hL, hlt, hb, own4⟩
      have HA4 : Hid (At w _ v4) := Below.trans HA3.out hb
      have HO4 : Hid (zs.Nodup → Own 3 v4 (w.heap.size + 1) _ (vi _)) := own4
      clear hb KP own4 HA2 HA3
      by_cases hd : zs.Nodup
      · have h1 : ¬ (L : Int) < n := by simpa [hd] using hlt
        have o := HO4.out hd
        have HF := HP.out _ v4 o HA4.out hd
        have e2 : (!decide (L < n)) = true := by simp; omega
        rw [← e2] at HF
        have HF : Hid _ := HF
        clear e2
        clear hlt HP HQ HO4 hd o
        go_wp2
        go_ret2
        exact HF.out
      · have h1 : (L : Int) < n := by simpa [hd] using hlt
        have HF : Hid (∀ v, ByL _ zs w (.returned (.tuple #[v, .bool false])) v4) := fun v => HQ.out v v4 HA4.out hd
        clear hlt HP HQ HO4 hd
        go_wp2
        go_ret2
        exact HF.out _
end Go.Proofs.YtcebfkkpclnmoaaDoor

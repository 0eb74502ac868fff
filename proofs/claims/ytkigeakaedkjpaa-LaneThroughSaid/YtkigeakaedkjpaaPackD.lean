/-
  The walk of flit.pack at a Body or a Tail.
-/
import Derived.Test.YtkigeakaedkjpaaPackF
import Derived.Laws.IdiomStrings
namespace Go.Proofs.Ytkigeakaedkjpaa
open Go.RowKit

def vb (l : List Nat) : List Value := l.map fun (n : Nat) => .int .u8 (n : Int)

/-- '[]byte(x)', with the new row under names. -/
theorem bytes_new (W : World) (x : ByteArray) : ∃ cap C fr, (convert 9 86 (.string x)).run Try.prog W = .ok (.slice (some ⟨W.heap.size, 0, none⟩) x.size cap) ((W.alloc (.cells C 5 fr)).drew) ∧
    ∀ j, j < x.size → C[j]? = some (.int .u8 ((bytes x).getD j 0 : Nat)) := by
  refine ⟨_, _, _, run_bytes_of_string (P := Try.prog) W 9 86 5 x Try.underlying9 Try.underlying86 Try.underlying5, fun j hj => ?_⟩
  have hj' : j < x.data.size := hj
  rw [bytesRow_at x _ j hj']
  unfold bytes
  simp [Array.getElem?_eq_getElem hj']

theorem own_ne {w : World} {B : Nat} {e t : TypeId} {v : Value} {l : List Value} {g : Nat} {C : Array Value} {fr : Nat × Nat} (h : Own e w B v l) (hg : w.heap[g]? = some (.cells C t fr)) (hne : e ≠ t) : v.ownBlock ≠ some g := by
  rcases h.2 with ⟨rfl, _⟩ | ⟨g', cap, cur, rfl, _, hh, _⟩
  · simp [Value.ownBlock]
  · intro he
    have : g' = g := by simpa [Value.ownBlock] using he
    subst this
    rw [hg] at hh
    injection hh with hh
    injection hh with _ ht
    exact hne ht.symm

theorem bytes_lt (x : ByteArray) (j : Nat) : (bytes x).getD j 0 < 256 := by
  by_cases h : j < (bytes x).length
  · have e : (bytes x).getD j 0 = (bytes x)[j] := by simp [h]
    rw [e]
    have hm : (bytes x)[j] ∈ bytes x := List.getElem_mem h
    generalize (bytes x)[j] = v at *
    unfold bytes at hm
    obtain ⟨b, _, hb⟩ := List.mem_map.mp hm
    rw [← hb]
    exact UInt8.toNat_lt b
  · have : (bytes x).getD j 0 = 0 := by simp [Nat.le_of_not_lt h]
    rw [this]; decide

theorem vu_snoc (k n : Nat) (l : List Nat) (j : Nat) (h : j < l.length) : vu (k :: n :: l.take j) ++ [.int .u32 ((l.getD j 0 : Nat) : Int)] = vu (k :: n :: l.take (j + 1)) := by
  have : l.take (j + 1) = l.take j ++ [l.getD j 0] := by
    rw [List.take_succ_eq_append_getElem h]; simp [h]
  rw [this]
  simp [vu]

theorem small_data {k n : Nat} {x : ByteArray} (h1 : k ≤ 3) (h2 : n ≤ 7) : small (k :: n :: bytes x) := by
  intro v hv
  simp only [List.mem_cons] at hv
  rcases hv with rfl | rfl | hv
  · omega
  · omega
  · unfold bytes at hv
    obtain ⟨b, _, rfl⟩ := List.mem_map.mp hv
    have := UInt8.toNat_lt b
    omega

set_option maxRecDepth 100000 in
set_option maxHeartbeats 1600000 in
theorem packf_data (k n : Nat) (x : ByteArray) (w : World) (h1 : 2 ≤ k) (h2 : k ≤ 3) (hn : n = x.size) (hx : n ≤ 6) (R : Nat × Int) (hR : packR (ds n) (k :: n :: bytes x) = R) :
    Calls Try.prog 73 #[.agg #[.int .i64 k, .int .i64 0, .int .i64 0, .int .i64 0, .int .i64 0, .bool false, .bool false, .string x]] w fun e w' => e = .returned (.tuple #[.int .u64 R.1, .int .i64 R.2]) ∧ Below w.heap.size w w' := by
  obtain ⟨i0, hi, hz0, hz1, hz2⟩ := info_parts Try.info65
  obtain ⟨A, hA⟩ : ∃ A, A = (Obj.cells #[.int .i64 k, .int .i64 0, .int .i64 0, .int .i64 0, .int .i64 0, .bool false, .bool false, .string x] 49) := ⟨_, rfl⟩
  obtain ⟨B, hB⟩ : ∃ B, B = w.heap.size + 1 := ⟨_, rfl⟩
  obtain ⟨cap, C, fr, kc, hC⟩ := bytes_new ((w.alloc A).alloc (.cells #[.int .u32 k, .int .u32 n] 65)) x
  rw [show ((w.alloc A).alloc (.cells #[.int .u32 k, .int .u32 n] 65)).heap.size = w.heap.size + 1 + 1 by simp] at kc
  have o0 : Own 65 ((((w.alloc A).alloc (.cells #[.int .u32 k, .int .u32 n] 65)).alloc (.cells C 5 fr)).drew) B (.slice (some ⟨w.heap.size + 1, 0, none⟩) 2 2) (vu (k :: n :: (bytes x).take 0)) := by
    have := World.ownsRow_lit (e := 65) (size := 1) (base := B) (w.alloc A) #[.int .u32 k, .int .u32 n] 2 (by simp [hB]) (by simp [maxLen]) rfl
    rw [show (w.alloc A).heap.size = w.heap.size + 1 by simp] at this
    exact this.alloc _
  have b0 : Below B (w.alloc A) ((((w.alloc A).alloc (.cells #[.int .u32 k, .int .u32 n] 65)).alloc (.cells C 5 fr)).drew) :=
    below_drew (((Below.refl _ _).alloc (by simp [hB]) _).alloc (by simp [hB]) _)
  have g0 : ((((w.alloc A).alloc (.cells #[.int .u32 k, .int .u32 n] 65)).alloc (.cells C 5 fr)).drew).heap[w.heap.size + 2]? = some (.cells C 5 fr) := by
    have := heap_alloc_new ((w.alloc A).alloc (.cells #[.int .u32 k, .int .u32 n] 65)) (.cells C 5 fr)
    rw [show ((w.alloc A).alloc (.cells #[.int .u32 k, .int .u32 n] 65)).heap.size = w.heap.size + 2 by simp] at this
    exact this
  have c7 : ∀ wr, Below B (w.alloc A) wr → wr.cell? ⟨w.heap.size, 7, none⟩ = some (.string x) := fun wr hb => by
    rw [hb.cell (p := ⟨w.heap.size, 7, none⟩) (by simp [hB]), hA]
    exact World.cell?_alloc_at _ _ _ _ rfl
  have bx : ∀ wr, Below B (w.alloc A) wr → Below w.heap.size w wr := fun wr hb => ((Below.refl _ _).alloc (Nat.le_refl _) _).trans (hb.mono (by omega))
  have hbl : (bytes x).length = n := by rw [bytes_len, hn]
  have hsm : small (k :: n :: bytes x) := small_data h2 (by omega)
  have O0 : Hid (Own 65 ((((w.alloc A).alloc (.cells #[.int .u32 k, .int .u32 n] 65)).alloc (.cells C 5 fr)).drew) B (.slice (some ⟨w.heap.size + 1, 0, none⟩) 2 2) (vu (k :: n :: (bytes x).take 0))) := o0
  have B0 : Hid (Below B (w.alloc A) ((((w.alloc A).alloc (.cells #[.int .u32 k, .int .u32 n] 65)).alloc (.cells C 5 fr)).drew)) := b0
  have G0 : Hid (((((w.alloc A).alloc (.cells #[.int .u32 k, .int .u32 n] 65)).alloc (.cells C 5 fr)).drew).heap[w.heap.size + 2]? = some (.cells C 5 fr)) := g0
  have HC : Hid (∀ j, j < x.size → C[j]? = some (.int .u8 ((bytes x).getD j 0 : Nat))) := hC
  have H7 : Hid (∀ wr, Below B (w.alloc A) wr → wr.cell? ⟨w.heap.size, 7, none⟩ = some (.string x)) := c7
  have HX : Hid (∀ wr, Below B (w.alloc A) wr → Below w.heap.size w wr) := bx
  have HL : Hid ((bytes x).length = n) := hbl
  have HN : Hid (n = x.size) := hn
  have HS : Hid (small (k :: n :: bytes x)) := hsm
  have HR : Hid (packR (ds n) (k :: n :: bytes x) = R) := hR
  have HB : Hid (B = w.heap.size + 1) := hB
  have HA : Hid (A = (Obj.cells #[.int .i64 k, .int .i64 0, .int .i64 0, .int .i64 0, .int .i64 0, .bool false, .bool false, .string x] 49)) := hA
  have hn' : x.size = n := hn.symm
  have t1 : ((k : Int) == 1) = false := by simp; omega
  clear o0 b0 g0 hC c7 bx hbl hn hsm hR hB
  subst hA
  rw [hn'] at kc
  go_enter Try.func73, Try.ntmps73
  go_wp2
  go_loopw [4, 48] (fun v i wr => ∃ j : Nat, j ≤ n ∧ i = .int .i64 j ∧ Own 65 wr B v (vu (k :: n :: (bytes x).take j)) ∧ Below B (w.alloc (Obj.cells #[.int .i64 k, .int .i64 0, .int .i64 0, .int .i64 0, .int .i64 0, .bool false, .bool false, .string x] 49)) wr ∧ Hid (wr.heap[w.heap.size + 2]? = some (.cells C 5 fr))) (fun _ i _ => n - (intOf i).toNat)
  case atStart => exact ⟨0, Nat.zero_le _, rfl, O0.out, B0.out, G0⟩
  case round =>
    obtain ⟨j, hj, rfl, hown, hbel, hG⟩ := hrel
    by_cases hlt : j < n
    · have hsz : B ≤ wr.heap.size := by have := hbel.size; have := HB.out; simp at *; omega
      have hne := own_ne hown hG.out (by decide)
      have hglt : w.heap.size + 2 < wr.heap.size := lt_of_heap hG.out
      have hc : wr.cell? ⟨w.heap.size + 1 + 1, 0 + j, none⟩ = some (.int .u8 ((bytes x).getD j 0 : Nat)) := by
        rw [cell_of (b := w.heap.size + 1 + 1) hG.out]
        rw [Nat.zero_add]
        exact HC.out j (by have := HN.out; omega)
      rw [Nat.zero_add] at hc
      have hb256 := bytes_lt x j
      have he := vu_snoc k n (bytes x) j (by have := HL.out; omega)
      have hll : (vu (k :: n :: (bytes x).take j)).length = j + 2 := by simp [vu]; have := HL.out; omega
      obtain ⟨b, hb⟩ : ∃ b, b = (bytes x).getD j 0 := ⟨_, rfl⟩
      rw [← hb] at hc hb256 he
      have HE : Hid (vu (k :: n :: (bytes x).take j) ++ [.int .u32 (b : Int)] = vu (k :: n :: (bytes x).take (j + 1))) := he
      have HLL : Hid ((vu (k :: n :: (bytes x).take j)).length = j + 2) := hll
      have HNE : Hid (_ ≠ some (w.heap.size + 2)) := hne
      clear he hll hb hne
      generalize vu (k :: n :: (bytes x).take j) = L at *
      go_wp2_with (at_builtin; refine wpList_append_own _ rfl _ _ 80 rfl B 65 i0 (.int .u32 0) 1 4 Try.underlying80 hi hz0 hz1 hz2 rfl (by decide) _ _ _ rfl (World.ownsRow.alloc hown _) ⟨wr.heap.size, 0, none⟩ 1 1 [.int .u32 (b : Int)] rfl rfl ?c1 ?c2 ?c3 ?c4 ?c5 ?_)
      case c1 =>
        intro j u hj
        match j, hj with
        | 0, hj => simp at hj; subst hj; exact (World.cell?_alloc_at _ _ _ _ rfl).trans rfl
      case c2 => intro u hu; simp at hu; subst hu; rfl
      case c3 => have := HLL.out; unfold maxLen; omega
      case c4 => have := HLL.out; omega
      case c5 => simp; omega
      · intro v' w1 hown' hgrow _
        have hown2 : Own 65 w1 B v' (vu (k :: n :: (bytes x).take (j + 1))) := by rw [← HE.out]; exact Own.snoc hown'
        have hbel2 : Below B (w.alloc (Obj.cells #[.int .i64 k, .int .i64 0, .int .i64 0, .int .i64 0, .int .i64 0, .bool false, .bool false, .string x] 49)) w1 := Below.grown (hbel.alloc (by simpa using hsz) _) hgrow (by simp; omega) (fun q hq => (World.ownsRow.lt hown q hq).1)
        have hG2 : Hid (w1.heap[w.heap.size + 2]? = some (.cells C 5 fr)) := by
          show _ = _
          rw [hgrow.block _ (by simp; omega) (fun h => HNE.out h.symm), Below.heap_alloc _ _ _ hglt]
          exact hG.out
        clear hown' hgrow hown hbel hc hG
        go_wp2
        go_roundw
        case rel => exact ⟨j + 1, by omega, by go_num, hown2, hbel2, hG2⟩
        case measure => simp [intOf]; omega
    · obtain rfl : j = n := by omega
      rw [show (bytes x).take j = bytes x from List.take_of_length_le (by have := HL.out; omega)] at hown
      obtain ⟨a2, cap2, rfl, _, _, hrd⟩ := hown.rd
      have hl2 : (vu (k :: j :: bytes x)).length = j + 2 := by simp [vu]; have := HL.out; omega
      rw [hl2]
      have D := dataSizes_any j (by omega) wr
      have c7 := H7.out _ hbel
      have HBl : Hid (Below B _ wr) := hbel
      have HRd : Hid (Rd wr a2 (vu (k :: j :: bytes x))) := hrd
      have HL2 : Hid ((bytes x).length = j) := HL.out
      clear hown hl2 hrd hG hbel
      go_wp2_with fail
      go_at_call 79
      refine D.mono ?_
      rintro e w2 ⟨v3, rfl, ho3, hb3⟩
      obtain ⟨a3, cap3, rfl, _, _, hrd3⟩ := ho3.rd
      have hl3 : (vi (ds j)).length = j + 2 := by simp [vi, ds]
      rw [hl3]
      have P := pack_any w2 a3 a2 (j + 2) (j + 2) cap3 cap2 (ds j) (k :: j :: bytes x) (by simp [ds]) (by simp; have := HL2.out; omega) (by omega) (by omega) hrd3 (HRd.out.below hb3) HS.out
      rw [HR.out] at P
      have HBF : Hid (Below w.heap.size w w2) := HX.out _ (HBl.out.trans (hb3.mono (by have := HBl.out.size; have := HB.out; simp at *; omega)))
      clear ho3 hb3 hrd3 hl3 D
      obtain ⟨R1, R2⟩ := R
      simp only at P
      go_wp2_with (go_at_call 82; (with_reducible refine P.mono ?_); rintro e w' ⟨rfl, n5, rfl⟩)
      go_ret2
      exact ⟨rfl, below_drewN HBF.out _⟩
end Go.Proofs.Ytkigeakaedkjpaa

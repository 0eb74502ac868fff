/-
  The walk of the document's own Write, at a Body or a Tail.
-/
import Derived.Test.YtkigeakaedkjpaaApp
namespace Go.Proofs.Ytkigeakaedkjpaa
open Go.RowKit

theorem vi_snoc (j : Nat) : vi (ds j) ++ [.int .i64 8] = vi (ds (j + 1)) := by
  unfold vi ds
  simp only [List.map_cons, List.cons_append, List.map_replicate]
  rw [List.replicate_succ']

/-- A byte of a string. -/
theorem byte_at (x : ByteArray) (j : Nat) (h : j < x.size) : x[j].toNat = (bytes x).getD j 0 := by
  unfold bytes
  have h' : j < x.data.size := h
  simp [Array.getElem?_eq_getElem h']
  rfl

theorem start_four (w1 : World) (a b : Obj) (k n : Nat) :
    Own 3 ((((w1.alloc a).alloc b).alloc (.cells #[.int .i64 2, .int .i64 3] 3)).alloc (.cells #[.int .u32 k, .int .u32 n] 65)).drew w1.heap.size (.slice (some ⟨w1.heap.size + 1 + 1, 0, none⟩) 2 2) (vi (ds 0)) ∧
    Own 65 ((((w1.alloc a).alloc b).alloc (.cells #[.int .i64 2, .int .i64 3] 3)).alloc (.cells #[.int .u32 k, .int .u32 n] 65)).drew w1.heap.size (.slice (some ⟨w1.heap.size + 1 + 1 + 1, 0, none⟩) 2 2) (vu [k, n]) ∧
    Below w1.heap.size w1 ((((w1.alloc a).alloc b).alloc (.cells #[.int .i64 2, .int .i64 3] 3)).alloc (.cells #[.int .u32 k, .int .u32 n] 65)).drew := by
  refine ⟨?_, ?_, below_drew ((((((Below.refl _ _).alloc (Nat.le_refl _) _).alloc (by simp) _).alloc (by simp; omega) _).alloc (by simp; omega) _))⟩
  · have := (World.ownsRow_lit (e := 3) (size := 1) (base := w1.heap.size) ((w1.alloc a).alloc b) #[.int .i64 2, .int .i64 3] 2 (by simp; omega) (by simp [maxLen]) rfl).alloc (.cells #[.int .u32 k, .int .u32 n] 65)
    rw [show ((w1.alloc a).alloc b).heap.size = w1.heap.size + 1 + 1 by simp] at this
    exact this
  · have := World.ownsRow_lit (e := 65) (size := 1) (base := w1.heap.size) (((w1.alloc a).alloc b).alloc (.cells #[.int .i64 2, .int .i64 3] 3)) #[.int .u32 k, .int .u32 n] 2 (by simp; omega) (by simp [maxLen]) rfl
    rw [show (((w1.alloc a).alloc b).alloc (.cells #[.int .i64 2, .int .i64 3] 3)).heap.size = w1.heap.size + 1 + 1 + 1 by simp] at this
    exact this

set_option maxRecDepth 100000 in
set_option maxHeartbeats 1600000 in
theorem rwrite_data (k : Nat) (x : ByteArray) (w : World) (h1 : 2 ≤ k) (h2 : k ≤ 3) (hx : x.size ≤ 6) (h : (Fl.mk k 0 0 0 0 false false x).rightB = true) (p : Nat) (hp : packR (ds x.size) (k :: x.size :: bytes x) = (p, 0)) :
    Calls Try.prog 42 #[flv ⟨k, 0, 0, 0, 0, false, false, x⟩] w fun e w' => e = .returned (.tuple #[.int .u64 (sealN p), .int .i64 0]) ∧ Below w.heap.size w w' := by
  obtain ⟨i0, hi, hz0, hz1', hz2'⟩ := info_parts Try.info65
  obtain ⟨j0, ki, kz0, kz1, kz2⟩ := info_parts Try.info3
  have hR := rfright_any ⟨k, 0, 0, 0, 0, false, false, x⟩ (w.alloc (.cells (flc ⟨k, 0, 0, 0, 0, false, false, x⟩) 49))
  rw [show (w.alloc (.cells (flc ⟨k, 0, 0, 0, 0, false, false, x⟩) 49)).heap.size = w.heap.size + 1 by simp] at hR
  have HC : Hid (∀ w1, Below (w.heap.size + 1) (w.alloc (.cells (flc ⟨k, 0, 0, 0, 0, false, false, x⟩) 49)) w1 → ∀ j, w1.cell? ⟨w.heap.size, j, none⟩ = (flc ⟨k, 0, 0, 0, 0, false, false, x⟩)[j]?) := fun w1 h j => flit_cells _ h j
  have B0 : Hid (∀ w1, Below (w.heap.size + 1) (w.alloc (.cells (flc ⟨k, 0, 0, 0, 0, false, false, x⟩) 49)) w1 → Below w.heap.size w w1) := fun w1 h => below_box _ _ h
  rw [h] at hR
  have O := fun b w => one_any b w
  have hplt := packR_lt (ds x.size) (k :: x.size :: bytes x)
  rw [hp] at hplt
  have S := fun w => rseal_any p hplt w
  generalize sealN p = sp at *
  have HS : Hid (small (k :: x.size :: bytes x)) := small_data h2 (by omega)
  have HL : Hid ((bytes x).length = x.size) := bytes_len x
  have HP : Hid (packR (ds x.size) (k :: x.size :: bytes x) = (p, 0)) := hp
  clear h hp
  have e0 : IntKind.u32.wrap (0 : Int) = 0 := by decide
  have t1 : ((k : Int) == 1) = false := by simp; omega
  have t2 : ((k : Int) != 1) = true := by simp; omega
  simp only [flv, flc] at *
  go_enter Try.func42, Try.ntmps42
  go_wp2_with fail
  go_at_call 56
  refine hR.mono ?_
  rintro e w1 ⟨rfl, hb⟩
  have hc := HC.out _ hb
  have c0 := hc 0
  have c1 := hc 1
  have c2 := hc 2
  have c3 := hc 3
  have c4 := hc 4
  have c5 := hc 5
  have c6 := hc 6
  have c7 := hc 7
  have HB : Hid (Below w.heap.size w w1) := B0.out _ hb
  have hz : w.heap.size < w1.heap.size := by have := hb.size; simp at this; omega
  have hz1 : w.heap.size < w1.heap.size + 1 := by omega
  have hz2 : w.heap.size < w1.heap.size + 1 + 1 := by omega
  have hz3 : w.heap.size < w1.heap.size + 1 + 1 + 1 := by omega
  clear hb hc hR
  simp at c0 c1 c2 c3 c4 c5 c6 c7
  go_wp2_with fail
  go_region_held3 (fun w' => w'.cell? ⟨w.heap.size, 1, none⟩ = some (.int .i64 0) ∧ w'.cell? ⟨w.heap.size, 2, none⟩ = some (.int .i64 0) ∧ w'.cell? ⟨w.heap.size, 3, none⟩ = some (.int .i64 0) ∧ w'.cell? ⟨w.heap.size, 4, none⟩ = some (.int .i64 0) ∧ w'.cell? ⟨w.heap.size, 5, none⟩ = some (.bool false) ∧ w'.cell? ⟨w.heap.size, 6, none⟩ = some (.bool false))
    (go_keep)
    (first
      | (go_at_call 57; (with_reducible refine (O _ _).mono ?_); rintro e w' ⟨rfl, rfl⟩))
  all_goals
    go_wp2_with fail
  obtain ⟨s1, s2, s3⟩ := start_four w1 hsO (hvO 0 0 0 0 (bitN false) (bitN false)) k x.size
  have S1 : Hid (Own 3 _ w1.heap.size _ (vi (ds 0))) := s1
  have S2 : Hid (Own 65 _ w1.heap.size _ (vu (k :: x.size :: (bytes x).take 0))) := s2
  have S3 : Hid (Below w1.heap.size w1 _) := s3
  clear s1 s2 s3
  go_loopw [4, 5, 6] (fun v1 v2 i wr => ∃ j : Nat, j ≤ x.size ∧ i = .int .i64 j ∧ Own 3 wr w1.heap.size v1 (vi (ds j)) ∧ Own 65 wr w1.heap.size v2 (vu (k :: x.size :: (bytes x).take j)) ∧ Below w1.heap.size w1 wr) (fun _ _ i _ => x.size - (intOf i).toNat)
  case atStart => exact ⟨0, Nat.zero_le _, rfl, S1.out, S2.out, S3.out⟩
  case round =>
    obtain ⟨j, hj, rfl, own1, own2, hbel⟩ := hrel
    have d7 := (hbel.cell (p := ⟨w.heap.size, 7, none⟩) hz).trans c7
    by_cases hlt : j < x.size
    · have hsz : w1.heap.size ≤ wr.heap.size := hbel.size
      have hby := byte_at x j hlt
      have hb256 := bytes_lt x j
      have he1 := vi_snoc j
      have he2 := vu_snoc k x.size (bytes x) j (by have := HL.out; omega)
      have hl1 : (vi (ds j)).length ≤ 1000000 := by simp [vi, ds]; omega
      have hl2 : (vu (k :: x.size :: (bytes x).take j)).length ≤ 1000000 := by simp [vu]; have := HL.out; omega
      have HE1 : Hid (vi (ds j) ++ [.int .i64 8] = vi (ds (j + 1))) := he1
      obtain ⟨b, hb⟩ : ∃ b, b = (bytes x).getD j 0 := ⟨_, rfl⟩
      rw [← hb] at hby hb256 he2
      have HE2 : Hid (vu (k :: x.size :: (bytes x).take j) ++ [.int .u32 (b : Int)] = vu (k :: x.size :: (bytes x).take (j + 1))) := he2
      clear he1 he2 hb
      generalize vi (ds j) = L1 at *
      generalize vu (k :: x.size :: (bytes x).take j) = L2 at *
      go_wp2_with (first
        | (at_builtin; refine wpList_app_one rfl (.tmp 51) (.tmp 52) 83 3 j0 (.int .i64 0) 8 rfl Try.underlying83 ki kz0 kz1 kz2 rfl (by decide) w1.heap.size wr _ _ (.int .i64 8) rfl own1 rfl rfl hl1 hsz ?_; intro v1' wa o1a ka; have ba := ka.2.1 _ hbel; have o2a := ka.2.2.1 65 _ _ (by decide) own2; have za := Nat.le_trans hsz ka.1; have d7a := (ba.cell (p := ⟨w.heap.size, 7, none⟩) hz).trans c7; clear ka own1 own2 hbel d7)
        | (at_builtin; refine wpList_app_one rfl (.tmp 54) (.tmp 60) 80 65 i0 (.int .u32 0) 4 rfl Try.underlying80 hi hz0 hz1' hz2' rfl (by decide) w1.heap.size wa _ _ (.int .u32 (b : Int)) rfl o2a rfl rfl hl2 za ?_; intro v2' wb o2b kb; have bb := kb.2.1 _ ba; have o1b := kb.2.2.1 3 _ _ (by decide) o1a; clear kb o1a o2a ba))
      rw [HE1.out] at o1b
      rw [HE2.out] at o2b
      go_roundw
      case rel => exact ⟨j + 1, by omega, by go_num, o1b, o2b, bb⟩
      case measure => simp [intOf]; omega
    · obtain rfl : j = x.size := by omega
      rw [show (bytes x).take x.size = bytes x from List.take_of_length_le (by have := HL.out; omega)] at own2
      obtain ⟨a1, cap1, rfl, _, _, hrd1⟩ := own1.rd
      obtain ⟨a2, cap2, rfl, _, _, hrd2⟩ := own2.rd
      have hl1 : (vi (ds x.size)).length = x.size + 2 := by simp [vi, ds]
      have hl2 : (vu (k :: x.size :: bytes x)).length = x.size + 2 := by simp [vu]; exact HL.out
      rw [hl1, hl2]
      have P := rpack_any wr a1 a2 (x.size + 2) (x.size + 2) cap1 cap2 (ds x.size) (k :: x.size :: bytes x) (by simp [ds]) (by simp; have := HL.out; omega) (by omega) (by omega) hrd1 hrd2 HS.out
      rw [HP.out] at P
      have HBF : Hid (Below w.heap.size w wr) := HB.out.trans (hbel.mono (by omega))
      clear own1 own2 hrd1 hrd2 hl1 hl2 hbel
      go_wp2_with (first
        | (go_at_call 58; (with_reducible refine P.mono ?_); rintro e w' ⟨rfl, n5, rfl⟩)
        | (go_at_call 53; (with_reducible refine (S _).mono ?_); rintro e w' ⟨rfl, rfl⟩))
      go_ret2
      exact ⟨rfl, below_drewN HBF.out _⟩
end Go.Proofs.Ytkigeakaedkjpaa

/-
  What the library's calls ask of the world, and what they do, all in one form: new blocks alone.
-/
import Derived.Test.YtkebplapjkefiaaDoorShelf
import Derived.Test.YtkebplapjkefiaaDoorPar
namespace Go.Proofs.YtkebplapjkefiaaDoor
open Go.RowKit Go.Lib

/-- The library's variables hold what its own text lays. -/
def Env (w : World) : Prop :=
  6 ≤ w.heap.size ∧ TabIs Tryd.prog w "internal/strconv.uint64pow10" .u64 pow10Tab ∧ (∃ m, w.cell? ⟨1, 0, none⟩ = some (.int .i64 m)) ∧ ∃ ev, w.cell? ⟨2, 0, none⟩ = some ev ∧ (ev = .nilIface ∨ ∃ te pe, ev = .iface te pe)

theorem Env.below {w w' : World} {B : Nat} (h : Env w) (hb : Below B w w') (hB : 6 ≤ B) : Env w' := by
  obtain ⟨h0, h1, ⟨m, h2⟩, ev, h3, h4⟩ := h
  refine ⟨Nat.le_trans h0 hb.size, ?_, ⟨m, ?_⟩, ev, ?_, h4⟩
  · unfold TabIs World.var? at h1 ⊢
    rw [show Tryd.prog.globalNamed "internal/strconv.uint64pow10" = some 0 by kernel_rfl] at h1 ⊢
    simp only [Option.bind_some] at h1 ⊢
    rw [hb.block 0 (by omega)]
    exact h1
  · rw [hb.cell (p := ⟨1, 0, none⟩) (by show 1 < B; omega)]; exact h2
  · rw [hb.cell (p := ⟨2, 0, none⟩) (by show 2 < B; omega)]; exact h3
theorem Env.next {w w' : World} (h : Env w) (hb : Below w.heap.size w w') : Env w' := h.below hb h.1

/-- A list of bytes as a string. -/
abbrev bs (l : L) : ByteArray := ⟨l.toArray⟩
theorem bs_list (l : L) : (bs l).data.toList = l := rfl
theorem bs_size (l : L) : (bs l).size = l.length := by simp [ByteArray.size]

theorem itoa_any (n : Int) (h0 : -9223372036854775808 ≤ n) (h1 : n ≤ 9223372036854775807) (w : World) (hE : Env w) :
    Calls Tryd.prog 22 #[.int .i64 n] w fun e w' => e = .returned (.string (bs (itoa n))) ∧ Below w.heap.size w w' :=
  (Tryd.strconv_Itoa n h0 h1 w hE.2.1).mono fun e w' ⟨he, k, os, hw⟩ => ⟨he, by
    subst hw
    exact ⟨rfl, rfl, rfl, by show w.heap.size ≤ (w.heap ++ os).size; rw [Array.size_append]; omega, fun k hk => by
      show (w.heap ++ os)[k]? = w.heap[k]?
      rw [Array.getElem?_append_left hk]⟩⟩

theorem join_any (bk : Nat) (xs : List L) (c : Nat) (w : World) (hcells : ∀ (j : Nat) x, xs[j]? = some x → w.cell? ⟨bk, j, none⟩ = some (.string (bs x))) (hbk : bk < w.heap.size) (hN : xs.length ≤ 100) (hcap : xs.length ≤ c)
    (hlen : (join xs [32]).length ≤ 100000) :
    Calls Tryd.prog 23 #[.slice (some ⟨bk, 0, none⟩) xs.length c, .string (bs [32])] w fun e w' => e = .returned (.string (bs (join xs [32]))) ∧ Below w.heap.size w w' := by
  have h := Tryd.strings_Join bk 0 c (xs.map bs) (bs [32]) w (fun j x hx => by
    rw [List.getElem?_map] at hx
    cases hj : xs[j]? with
    | none => rw [hj] at hx; cases hx
    | some y =>
      rw [hj] at hx
      simp only [Option.map_some, Option.some.injEq] at hx
      subst hx
      rw [Nat.zero_add]
      exact hcells j y hj) hbk (by simp; omega) (by simpa using hcap) (by
      rw [List.map_map]
      show (join (xs.map fun x => x) [32]).length ≤ _
      rw [List.map_id']
      omega)
  rw [List.map_map] at h
  change Calls _ _ #[.slice _ (xs.map bs).length c, _] _ (fun e w' => e = .returned (.string ⟨(join (xs.map fun x => x) [32]).toArray⟩) ∧ _) at h
  rw [List.map_id', List.length_map] at h
  exact h

theorem drewN_below (w : World) (n : Nat) : Below w.heap.size w (w.drewN n) := ⟨rfl, rfl, rfl, Nat.le_refl _, fun _ _ => rfl⟩

theorem cut_any (s : L) (x : UInt8) (hs : s.length ≤ 1000) (w : World) (hE : Env w) :
    Calls Tryd.prog 40 #[.string (bs s), .string (bs [x])] w fun e w' => e = .returned (.tuple #[.string (bs (cut s [x]).1), .string (bs (cut s [x]).2.1), .bool (cut s [x]).2.2]) ∧ Below w.heap.size w w' := by
  obtain ⟨m, hm⟩ := hE.2.2.1
  exact (Tryd.strings_Cut (bs s) (bs [x]) m w (by rw [bs_size]; omega) hm).mono fun e w' ⟨he, n, hw⟩ => ⟨he, by subst hw; exact drewN_below w n⟩

theorem trim_any (s : L) (w : World) :
    Calls Tryd.prog 41 #[.string (bs s), .string (bs [45])] w fun e w' => e = .returned (.string (bs (bare s))) ∧ w = w' :=
  (Tryd.strings_TrimPrefix (bs s) (bs [45]) w).mono fun _ _ ⟨he, hw⟩ => ⟨he, hw.symm⟩

theorem hasPrefix_any (s p : L) (w : World) :
    Calls Tryd.prog 34 #[.string (bs s), .string (bs p)] w fun e w' => e = .returned (.bool (hasPrefix s p)) ∧ w = w' :=
  (Tryd.strings_HasPrefix (bs s) (bs p) w).mono fun _ _ ⟨he, hw⟩ => ⟨he, hw.symm⟩
theorem hasSuffix_any (s p : L) (hs : s.length ≤ 1000) (w : World) :
    Calls Tryd.prog 35 #[.string (bs s), .string (bs p)] w fun e w' => e = .returned (.bool (hasSuffix s p)) ∧ w = w' :=
  (Tryd.strings_HasSuffix (bs s) (bs p) w (by rw [bs_size]; omega)).mono fun _ _ ⟨he, hw⟩ => ⟨he, hw.symm⟩

theorem atoi_some (s : L) (n : Int) (hs : s.length ≤ 18) (h : atoi s = some n) (w : World) :
    Calls Tryd.prog 42 #[.string (bs s)] w fun e w' => e = .returned (.tuple #[.int .i64 n, .nilIface]) ∧ Below w.heap.size w w' :=
  (Tryd.strconv_Atoi (bs s) n (by rw [bs_size]; exact hs) h w).mono fun e w' ⟨he, t, hw⟩ => ⟨he, by
    subst hw
    have hb := bytesWorld_below w 5 t
    exact hb⟩
theorem atoi_none (s : L) (hs : s.length ≤ 18) (h : atoi s = none) (w : World) (hE : Env w) :
    Calls Tryd.prog 42 #[.string (bs s)] w fun e w' => (∃ N : Nat, e = .returned (.tuple #[.int .i64 0, .iface 93 (.pointer (some ⟨N, 0, none⟩))])) ∧ Below w.heap.size w w' := by
  obtain ⟨ev, h1, h2⟩ := hE.2.2.2
  exact (Tryd.strconv_Atoi_err (bs s) (by rw [bs_size]; exact hs) h ev w h1 h2).mono fun e w' ⟨N, he, _, _, hb⟩ => ⟨⟨N, he⟩, hb⟩
end Go.Proofs.YtkebplapjkefiaaDoor

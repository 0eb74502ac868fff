/-
  The walk of the document's own Read, at any other word.
-/
import Derived.Test.YtkigeakaedkjpaaRreadH
namespace Go.Proofs.Ytkigeakaedkjpaa
open Go.RowKit

theorem one_set {w2 : World} {b : Nat} {k : Int} (h : w2.heap[b]? = some (.cells (flc ⟨k, 0, 0, 0, 0, false, false, ⟨#[]⟩⟩) 49 (0, 0))) (X : ByteArray) :
    (w2.setCell ⟨b, 7, none⟩ (.string X)).heap[b]? = some (.cells (flc ⟨k, 0, 0, 0, 0, false, false, X⟩) 49 (0, 0)) := by
  simp [World.setCell, Array.getElem?_modify, h]

theorem vals_getD (W : Nat) : ∀ (n : Nat) (a : Int) (j : Nat), j < n → (vals W a (List.replicate n 8)).getD j 0 = getV W (a + 8 * j) 8
  | 0, _, _, h => by omega
  | n + 1, a, 0, _ => by
    rw [List.replicate_succ, vals]
    simp
  | n + 1, a, j + 1, h => by
    rw [List.replicate_succ, vals]
    have := vals_getD W n (a + 8) j (by omega)
    simp only [List.getD_cons_succ]
    rw [this]
    congr 1
    omega

set_option maxRecDepth 100000 in
set_option maxHeartbeats 1600000 in
theorem rread_data (W k n n6 : Nat) (L : List Nat) (D : Fl) (a : Nat) (e1 : Int) (hW : W < 18446744073709551616) (hr : sealN W = W) (hk : W % 4 = k) (hk1 : k ≠ 1) (hn : getV W 2 3 = n) (h6 : (n ≤ 6 ∧ n6 = n) ∨ (6 < n ∧ n6 = 6)) (hn7 : n ≤ 7)
    (hL : L.length = n6) (hL8 : ∀ x ∈ L, x < 256) (hLj : ∀ j : Nat, j < n6 → L.getD j 0 = getV W (5 + 8 * (j : Int)) 8)
    (hD : D = ⟨k, 0, 0, 0, 0, false, false, ofB L⟩)
    (E : ∀ w, Calls Try.prog 42 #[flv D] w fun e w' => e = .returned (.tuple #[.int .u64 (a : Int), .int .i64 e1]) ∧ Below w.heap.size w w') (w : World) :
    Calls Try.prog 22 #[.int .u64 W] w (RPost w D a W e1) := by
  obtain ⟨i0, hi, hz0, hz1, hz2⟩ := info_parts Try.info5
  have R := fun w => rright_any W hW w
  rw [decide_eq_true hr] at R
  have G := fun w => rget_any W 2 3 hW w
  rw [hn, show getE 2 3 = 0 by decide] at G
  have G8 := fun (j : Nat) w => rget_any W (5 + 8 * (j : Int)) 8 hW w
  obtain ⟨B, hB⟩ : ∃ B, B = w.heap.size + 1 + 1 := ⟨_, rfl⟩
  obtain ⟨X, hX⟩ : ∃ X, X = ofB L := ⟨_, rfl⟩
  rw [← hX] at hD
  have HX : Hid (X = ofB L) := hX
  have HD : Hid (D = ⟨k, 0, 0, 0, 0, false, false, X⟩) := hD
  rw [hD] at E
  have hk4 : k < 4 := by rw [← hk]; exact Nat.mod_lt _ (by decide)
  have t1 : (W : Int) % 4 = k := by omega
  have t2 : ((k : Int) == 1) = false := by simp; omega
  have HL : Hid (L.length = n6) := hL
  have HL8 : Hid (∀ x ∈ L, x < 256) := hL8
  have HLj : Hid (∀ j : Nat, j < n6 → L.getD j 0 = getV W (5 + 8 * (j : Int)) 8) := hLj
  have HB : Hid (B = w.heap.size + 1 + 1) := hB
  have HK1 : Hid (k ≠ 1) := hk1
  have B0 : Hid (Below B ((w.alloc (.cells zc 49)).alloc (.cells (flc ⟨k, 0, 0, 0, 0, false, false, ⟨#[]⟩⟩) 49)) ((w.alloc (.cells zc 49)).alloc (.cells (flc ⟨k, 0, 0, 0, 0, false, false, ⟨#[]⟩⟩) 49))) := Below.refl _ _
  have O0 : Hid (Own 5 ((w.alloc (.cells zc 49)).alloc (.cells (flc ⟨k, 0, 0, 0, 0, false, false, ⟨#[]⟩⟩) 49)) B (.slice none 0 0) (vb (L.take 0))) := World.ownsRow_nil _ _ _ _
  clear hr hk hn hL hL8 hLj hD hX hB hk1
  simp only [flv, flc] at E
  go_enter Try.func22, Try.ntmps22
  go_wp2_with (first
    | (go_at_call 39; (with_reducible refine (R _).mono ?_); rintro e w' ⟨rfl, rfl⟩)
    | (go_at_call 41; (with_reducible refine (G _).mono ?_); rintro e w' ⟨rfl, rfl⟩))
  go_loopw [9, 10] (fun v i wr => ∃ j : Nat, j ≤ n6 ∧ i = .int .i64 j ∧ Own 5 wr B v (vb (L.take j)) ∧ Below B ((w.alloc (.cells zc 49)).alloc (.cells (flc ⟨k, 0, 0, 0, 0, false, false, ⟨#[]⟩⟩) 49)) wr) (fun _ i _ => n6 - (intOf i).toNat)
  case atStart => exact ⟨0, Nat.zero_le _, rfl, O0.out, B0.out⟩
  case round =>
    obtain ⟨j, hj, rfl, own5, hbel⟩ := hrel
    by_cases hlt : j < n6
    · have hlt1 : j < n := by omega
      have hlt2 : j < 6 := by omega
      have hsz : B ≤ wr.heap.size := by have := hbel.size; have := HB.out; simp at *; omega
      have H8 := G8 j
      have hbj := HLj.out j hlt
      have hb256 : L.getD j 0 < 256 := by
        have hjl : j < L.length := by have := HL.out; omega
        have e : L.getD j 0 = L[j] := by simp [hjl]
        rw [e]
        exact HL8.out _ (List.getElem_mem hjl)
      have he2 := vb_snoc L j (by have := HL.out; omega)
      have hl2 : (vb (L.take j)).length ≤ 1000000 := by simp [vb]; omega
      rw [← hbj] at H8
      obtain ⟨b, hb⟩ : ∃ b, b = L.getD j 0 := ⟨_, rfl⟩
      rw [← hb] at H8 hb256 he2
      have HE2 : Hid (vb (L.take j) ++ [.int .u8 (b : Int)] = vb (L.take (j + 1))) := he2
      clear he2 hb hbj G8 G
      generalize vb (L.take j) = L2 at *
      generalize getE (5 + 8 * (j : Int)) 8 = E8 at *
      go_wp2_with (first
        | (go_at_call 41; (with_reducible refine (H8 _).mono ?_); rintro e w' ⟨rfl, rfl⟩)
        | (at_builtin; refine wpList_app_one rfl (.tmp 85) (.tmp 88) 86 5 i0 (.int .u8 0) 1 rfl Try.underlying86 hi hz0 hz1 hz2 rfl (by decide) B wr _ _ (.int .u8 (b : Int)) rfl own5 rfl rfl hl2 hsz ?_; intro v1' wa o1a ka; have ba := ka.2.1 _ hbel; clear ka own5 hbel))
      rw [HE2.out] at o1a
      go_roundw
      case rel => exact ⟨j + 1, by omega, by go_num, o1a, ba⟩
      case measure => simp [intOf]; omega
    · obtain rfl : j = n6 := by omega
      rw [show L.take j = L from List.take_of_length_le (by have := HL.out; omega)] at own5
      have hst := own_string own5 HL8.out
      rw [← HX.out] at hst
      have e2 : wr.heap[w.heap.size + 1]? = some (.cells (flc ⟨k, 0, 0, 0, 0, false, false, ⟨#[]⟩⟩) 49 (0, 0)) := by
        rw [hbel.block (w.heap.size + 1) (by rw [HB.out]; omega)]
        have := heap_alloc_new (w.alloc (.cells zc 49)) (.cells (flc ⟨k, 0, 0, 0, 0, false, false, ⟨#[]⟩⟩) 49)
        rw [show (w.alloc (.cells zc 49)).heap.size = w.heap.size + 1 by simp] at this
        exact this
      have E2 : Hid (wr.heap[w.heap.size + 1]? = some (.cells (flc ⟨k, 0, 0, 0, 0, false, false, ⟨#[]⟩⟩) 49 (0, 0))) := e2
      have hy := fun j => eight_at e2 j
      have y0 := (hy 0).1
      have x0 := (hy 0).2
      have y1 := (hy 1).1
      have x1 := (hy 1).2
      have y2 := (hy 2).1
      have x2 := (hy 2).2
      have y3 := (hy 3).1
      have x3 := (hy 3).2
      have y4 := (hy 4).1
      have x4 := (hy 4).2
      have y5 := (hy 5).1
      have x5 := (hy 5).2
      have y6 := (hy 6).1
      have x6 := (hy 6).2
      have y7 := (hy 7).1
      have x7 := (hy 7).2
      simp at y0 y1 y2 y3 y4 y5 y6 y7
      have B2 : Hid (Below (w.heap.size + 1) (w.alloc (.cells zc 49)) wr) := (((Below.refl _ _).alloc (by simp) _).trans (hbel.mono (by rw [HB.out]; omega)))
      clear hy e2 own5 hbel G8 G
      rcases h6 with ⟨h61, rfl⟩ | ⟨h61, rfl⟩
      all_goals
        go_wp2_with fail
        go_at_call 42
        refine (E _).mono ?_
        rintro e w3 ⟨rfl, hc⟩
        have hY := one_set E2.out X
        have hlY := lt_of_heap hY
        have hd := fun j => eight_at ((hc.block _ hlY).trans hY) j
        have d0 : w3.cell? ⟨w.heap.size + 1, 0, none⟩ = some (.int .i64 k) := (hd 0).1
        have d1 : w3.cell? ⟨w.heap.size + 1, 1, none⟩ = some (.int .i64 0) := (hd 1).1
        have d2 : w3.cell? ⟨w.heap.size + 1, 2, none⟩ = some (.int .i64 0) := (hd 2).1
        have d3 : w3.cell? ⟨w.heap.size + 1, 3, none⟩ = some (.int .i64 0) := (hd 3).1
        have d4 : w3.cell? ⟨w.heap.size + 1, 4, none⟩ = some (.int .i64 0) := (hd 4).1
        have d5 : w3.cell? ⟨w.heap.size + 1, 5, none⟩ = some (.bool false) := (hd 5).1
        have d6 : w3.cell? ⟨w.heap.size + 1, 6, none⟩ = some (.bool false) := (hd 6).1
        have d7 : w3.cell? ⟨w.heap.size + 1, 7, none⟩ = some (.string X) := (hd 7).1
        have hb : Below (w.heap.size + 1) (w.alloc (.cells zc 49)) w3 := (B2.out.setCell (Nat.le_refl _) _).trans (hc.mono (by omega))
        obtain ⟨z0, z1, z2, z3, z4, z5, z6, z7, f0, f1, f2, f3, f4, f5, f6, f7⟩ := zeros hb
        have HBW : Hid (Below w.heap.size w w3) := below_box _ _ hb
        have g1 : ¬ w.heap.size + 1 = w.heap.size := by omega
        have g2 : ¬ w.heap.size = w.heap.size + 1 := by omega
        clear hc hb hd hY hlY E
        by_cases h1 : e1 = 0
        · subst h1
          by_cases h2 : a = W
          · subst h2
            go_wp2
            exact bodyPost_ret (v := .tuple #[.agg #[.int .i64 k, .int .i64 0, .int .i64 0, .int .i64 0, .int .i64 0, .bool false, .bool false, .string X], .int .i64 0]) (by simp [results, Try.results22, go_sem, z0, z1, z2, z3, z4, z5, z6, z7]) rfl ⟨by rw [if_pos ⟨rfl, rfl⟩, HD.out], below_eight HBW.out _ _ _ _ _ _ _ _⟩
          · have t3 : ((a : Int) != (W : Int)) = true := by simp; omega
            have t4 : ((a : Int) == (W : Int)) = false := by simp; omega
            have NE : Hid (¬ a = W) := h2
            clear h2
            go_wp2
            exact bodyPost_ret (v := .tuple #[.agg #[.int .i64 0, .int .i64 0, .int .i64 0, .int .i64 0, .int .i64 0, .bool false, .bool false, .string ⟨#[]⟩], .int .i64 2]) (by simp [results, Try.results22, go_sem, z0, z1, z2, z3, z4, z5, z6, z7]) rfl ⟨by rw [if_neg (fun h => NE.out h.1)], below_eight HBW.out _ _ _ _ _ _ _ _⟩
        · have t3 : (e1 != 0) = true := by simpa using h1
          have t4 : (e1 == 0) = false := by simpa using h1
          have NE : Hid (¬ e1 = 0) := h1
          clear h1
          go_wp2
          exact bodyPost_ret (v := .tuple #[.agg #[.int .i64 0, .int .i64 0, .int .i64 0, .int .i64 0, .int .i64 0, .bool false, .bool false, .string ⟨#[]⟩], .int .i64 2]) (by simp [results, Try.results22, go_sem, z0, z1, z2, z3, z4, z5, z6, z7]) rfl ⟨by rw [if_neg (fun h => NE.out h.2)], below_eight HBW.out _ _ _ _ _ _ _ _⟩
end Go.Proofs.Ytkigeakaedkjpaa

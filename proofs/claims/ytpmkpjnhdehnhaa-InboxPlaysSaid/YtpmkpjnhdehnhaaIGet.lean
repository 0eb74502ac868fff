/-
  The program's inbox: how many are in it, may be, wait; a source's next number.
-/
import Derived.Test.YtpmkpjnhdehnhaaIRead
namespace Go.Proofs.Ytpmkpjnhdehnhaa
open Go.RowKit

theorem inbox_len {w : World} {b : Nat} {S : IS} {F : Nat → Prop} (h : In w b S F) : Calls Try.prog 23 #[.pointer (some ⟨b, 0, none⟩)] w fun e w' => e = .returned (.int .i64 (S.L.length : Int)) ∧ Below w.heap.size w w' := by
  obtain ⟨ok, r, pr, mr, sr, mb, nb, N, hA, rfl⟩ := h
  have K := ilook_blk hA.blk
  have L : Hid (∀ V, Below w.heap.size w V → Calls Try.prog 37 #[.pointer (some ⟨r, 0, none⟩)] V fun e w' => e = .returned (.int .i64 ((S.L.length : Int))) ∧ ∃ n, w' = V.drewN n) := show _ from fun V hV => by
    have := RP.ring_len (hA.next hV).rg
    rwa [hA.xs] at this
  obtain ⟨X, hX⟩ : ∃ X : Int, X = (S.L.length : Int) := ⟨_, rfl⟩
  rw [← hX] at L ⊢
  clear hA hX ok
  simp only [sti] at *
  have f0 := fld0 (.pointer (some ⟨r, 0, none⟩)) (.map (some mb)) (.map (some nb))
  go_enter Try.func23, Try.ntmps23
  go_wp2_with (first
    | (go_at_call 30; with_reducible refine K.mono ?_; rintro e w1 ⟨rfl, hb1⟩)
    | (go_at_call 37; with_reducible refine (L.out _ hb1).mono ?_; rintro e w2 ⟨rfl, n, rfl⟩))
  go_ret
  exact ⟨rfl, dn hb1 n⟩
theorem inbox_room {w : World} {b : Nat} {S : IS} {F : Nat → Prop} (h : In w b S F) : Calls Try.prog 24 #[.pointer (some ⟨b, 0, none⟩)] w fun e w' => e = .returned (.int .i64 ((S.n : Int) - (S.L.length : Int))) ∧ Below w.heap.size w w' := by
  obtain ⟨ok, r, pr, mr, sr, mb, nb, N, hA, rfl⟩ := h
  have K := ilook_blk hA.blk
  have L : Hid (∀ V, Below w.heap.size w V → Calls Try.prog 32 #[.pointer (some ⟨r, 0, none⟩)] V fun e w' => e = .returned (.int .i64 (((S.n : Int) - (S.L.length : Int)))) ∧ ∃ n, w' = V.drewN n) := show _ from fun V hV => by
    have := RP.ring_room (hA.next hV).rg
    have e : sr.free = (S.n : Int) - (S.L.length : Int) := by
      have h1 := ok.n1
      have h2 := ok.n64
      rw [RP.RingSt.free, hA.room, hA.laid, hA.xs]
      simp [RP.one]
      omega
    rwa [e] at this
  obtain ⟨X, hX⟩ : ∃ X : Int, X = ((S.n : Int) - (S.L.length : Int)) := ⟨_, rfl⟩
  rw [← hX] at L ⊢
  clear hA hX ok
  simp only [sti] at *
  have f0 := fld0 (.pointer (some ⟨r, 0, none⟩)) (.map (some mb)) (.map (some nb))
  go_enter Try.func24, Try.ntmps24
  go_wp2_with (first
    | (go_at_call 30; with_reducible refine K.mono ?_; rintro e w1 ⟨rfl, hb1⟩)
    | (go_at_call 32; with_reducible refine (L.out _ hb1).mono ?_; rintro e w2 ⟨rfl, n, rfl⟩))
  go_ret
  exact ⟨rfl, dn hb1 n⟩
theorem inil_len (w : World) : Calls Try.prog 23 #[.pointer none] w fun e w' => e = .returned (.int .i64 0) ∧ Below w.heap.size w w' := by
  have K := ilook_nil w
  have L := RP.rgnil_len
  simp only [stz] at *
  have f0 := fld0 (.pointer none) (.map none) (.map none)
  go_enter Try.func23, Try.ntmps23
  go_wp2_with (first
    | (go_at_call 30; with_reducible refine K.mono ?_; rintro e w1 ⟨rfl, hb1⟩)
    | (go_at_call 37; with_reducible refine (L _).mono ?_; rintro e w2 ⟨rfl, rfl⟩))
  go_ret
  exact ⟨rfl, hb1⟩
theorem inil_room (w : World) : Calls Try.prog 24 #[.pointer none] w fun e w' => e = .returned (.int .i64 0) ∧ Below w.heap.size w w' := by
  have K := ilook_nil w
  have L := RP.rgnil_room
  simp only [stz] at *
  have f0 := fld0 (.pointer none) (.map none) (.map none)
  go_enter Try.func24, Try.ntmps24
  go_wp2_with (first
    | (go_at_call 30; with_reducible refine K.mono ?_; rintro e w1 ⟨rfl, hb1⟩)
    | (go_at_call 32; with_reducible refine (L _).mono ?_; rintro e w2 ⟨rfl, rfl⟩))
  go_ret
  exact ⟨rfl, hb1⟩
theorem inbox_waits {w : World} {b : Nat} {S : IS} {F : Nat → Prop} (h : In w b S F) : Calls Try.prog 25 #[.pointer (some ⟨b, 0, none⟩)] w fun e w' => e = .returned (.int .i64 (S.W.length : Int)) ∧ Below w.heap.size w w' := by
  obtain ⟨ok, r, pr, mr, sr, mb, nb, N, hA, rfl⟩ := h
  have K := ilook_blk hA.blk
  have L : Hid (∀ (V : World) (ty : TypeId), Below w.heap.size w V → (Builtin.len_ #[64] ty #[.map (some mb)]).run Try.prog V = .ok (.int .i64 (S.W.length : Int)) V) := show _ from fun V ty hV => by
    have := (hA.next hV).mp.len Try.underlying64 ty
    rwa [List.length_map] at this
  obtain ⟨Y, hY⟩ : ∃ Y : Int, Y = S.W.length := ⟨_, rfl⟩
  rw [← hY] at L ⊢
  clear hA hY ok
  simp only [sti] at *
  have f1 := fld1 (.pointer (some ⟨r, 0, none⟩)) (.map (some mb)) (.map (some nb))
  go_enter Try.func25, Try.ntmps25
  go_wp2_with (first
    | (go_at_call 30; with_reducible refine K.mono ?_; rintro e w1 ⟨rfl, hb1⟩)
    | (at_len; refine wpList_mlen rfl _ _ rfl rfl (L.out _ _ hb1) ?_))
  go_ret
  exact ⟨rfl, hb1⟩
theorem inil_waits (w : World) : Calls Try.prog 25 #[.pointer none] w fun e w' => e = .returned (.int .i64 0) ∧ Below w.heap.size w w' := by
  have K := ilook_nil w
  have L : ∀ (V : World) (ty : TypeId), (Builtin.len_ #[64] ty #[.map none]).run Try.prog V = .ok (.int .i64 0) V := fun V ty => Maps.len_nil Try.underlying64 ty
  simp only [stz] at *
  have f1 := fld1 (.pointer none) (.map none) (.map none)
  go_enter Try.func25, Try.ntmps25
  go_wp2_with (first
    | (go_at_call 30; with_reducible refine K.mono ?_; rintro e w1 ⟨rfl, hb1⟩)
    | (at_len; refine wpList_mlen rfl _ _ rfl rfl (L _ _) ?_))
  go_ret
  exact ⟨rfl, hb1⟩
theorem inbox_next {w : World} {b : Nat} {S : IS} {F : Nat → Prop} (h : In w b S F) {s : Int} (hs : (Lit.int .i64 s).wf = true) : Calls Try.prog 26 #[.pointer (some ⟨b, 0, none⟩), .int .i64 s] w fun e w' => e = .returned (.int .i64 (S.nx s)) ∧ Below w.heap.size w w' := by
  obtain ⟨ok, r, pr, mr, sr, mb, nb, N, hA, rfl⟩ := h
  have K := ilook_blk hA.blk
  have L : Hid (∀ V : World, Below w.heap.size w V → (Instr.lookup 65 (.map (some nb)) (.int .i64 s) false).run Try.prog V = .ok (.int .i64 (S.nx s)) V) := show _ from fun V hV => by
    rw [← hA.nx s]
    exact look_next (hA.next hV).np hA.nk hs
  obtain ⟨Y, hY⟩ : ∃ Y : Int, Y = S.nx s := ⟨_, rfl⟩
  rw [← hY] at L ⊢
  clear hA hY ok hs
  simp only [sti] at *
  have f2 := fld2 (.pointer (some ⟨r, 0, none⟩)) (.map (some mb)) (.map (some nb))
  go_enter Try.func26, Try.ntmps26
  go_wp2_with (first
    | (go_at_call 30; with_reducible refine K.mono ?_; rintro e w1 ⟨rfl, hb1⟩)
    | (at_lookup; refine wpList_mlook rfl _ _ _ _ rfl rfl rfl (L.out _ hb1) ?_))
  go_ret
  exact ⟨rfl, hb1⟩
theorem inil_next (w : World) {s : Int} (hs : (Lit.int .i64 s).wf = true) : Calls Try.prog 26 #[.pointer none, .int .i64 s] w fun e w' => e = .returned (.int .i64 0) ∧ Below w.heap.size w w' := by
  have K := ilook_nil w
  have L : ∀ V : World, (Instr.lookup 65 (.map none) (.int .i64 s) false).run Try.prog V = .ok (.int .i64 0) V := fun V => by
    obtain ⟨l, hl⟩ := int_kd hs
    exact Maps.look_nil false intLaw Try.underlying65 (zero_int V) hl
  simp only [stz] at *
  have f2 := fld2 (.pointer none) (.map none) (.map none)
  go_enter Try.func26, Try.ntmps26
  go_wp2_with (first
    | (go_at_call 30; with_reducible refine K.mono ?_; rintro e w1 ⟨rfl, hb1⟩)
    | (at_lookup; refine wpList_mlook rfl _ _ _ _ rfl rfl rfl (L _) ?_))
  go_ret
  exact ⟨rfl, hb1⟩
end Go.Proofs.Ytpmkpjnhdehnhaa

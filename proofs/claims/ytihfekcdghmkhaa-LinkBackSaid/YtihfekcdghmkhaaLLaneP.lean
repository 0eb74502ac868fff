/-
  Lanes don't use one another's credits: plain mathematics.
-/
import Derived.Test.YtihfekcdghmkhaaLObj
namespace Go.Proofs.Ytihfekcdghmkhaa
open RC (Cl zc)

theorem cl1_id {n m : Nat} (h1 : 1 ≤ n) (h2 : n ≤ m) : cl1 (n : Int) m = n := by unfold cl1; omega
theorem newS_id {a b c : Nat} (h1 : 1 ≤ a) (h2 : a ≤ 8) (h3 : 1 ≤ b) (h4 : b ≤ 64) (h5 : 1 ≤ c) (h6 : c ≤ 64) : newS a b c = { n := a, d := b, r := c, cr := List.replicate a (b : Int), ws := [], far := List.replicate a 0, bk := [] } := by
  unfold newS
  rw [cl1_id h1 h2, cl1_id h3 h4, cl1_id h5 h6]
theorem hasN_at {S : LS} {l : List Int} (hl : l.length = S.n) {q : Nat} (hq : q < S.n) : hasN l (q : Int) = l.getD q 0 := by
  unfold hasN
  rw [if_pos ⟨by omega, by omega⟩, Int.toNat_natCast]
/-- Nothing of lane q is under way; the ring is empty. -/
structure LaneInv (N D q : Nat) (S : LS) : Prop where
  ok : Ok S
  n : S.n = N
  d : S.d = D
  r : S.r = 64
  ws : S.ws = []
  bk : S.bk = []
  cr : S.cr.getD q 0 = D
  far : S.far.getD q 0 = 0
theorem LaneInv.new {N D q : Nat} (h1 : 2 ≤ N) (h2 : N ≤ 5) (h3 : 1 ≤ D) (h4 : D ≤ 5) (hq : q < N) : LaneInv N D q (newS N D 64) := by
  have e := newS_id (a := N) (b := D) (c := 64) (by omega) (by omega) h3 (by omega) (by omega) (by omega)
  have o := Ok.new N D 64
  rw [show ((64 : Nat) : Int) = 64 from rfl] at e
  rw [e] at o ⊢
  exact ⟨o, rfl, rfl, rfl, rfl, rfl, getD_rep _ _ _ hq, getD_rep _ _ _ hq⟩
theorem LaneInv.round {N D q : Nat} {S : LS} (h : LaneInv N D q S) {k : Nat} (hk : k < N) (hne : k ≠ q) (x : Int) : LaneInv N D q (carryF (sendF S k x).1).1 := by
  have hok := (h.ok.send k x).carry
  obtain ⟨ok, n, d, r, ws, bk, cr, far⟩ := h
  have hin : inL S (k : Int) = true := inL_mk (by omega)
  unfold sendF at hok ⊢
  rw [if_pos hin, Int.toNat_natCast] at hok ⊢
  by_cases hz : S.cr.getD k 0 = 0
  · rw [if_pos hz] at hok ⊢
    unfold carryF at hok ⊢
    rw [ws] at hok ⊢
    exact ⟨hok, n, d, r, ws, bk, cr, far⟩
  · rw [if_neg hz, if_neg (by rw [ws, r]; decide)] at hok ⊢
    simp only [carryF, putS, ws, List.nil_append] at hok ⊢
    refine ⟨hok, n, d, r, rfl, bk, ?_, ?_⟩
    · show (S.cr.set k _).getD q 0 = _
      rw [getD_set_if _ _ _ _ (by rw [ok.cl]; omega), if_neg (fun e => hne e.symm)]
      exact cr
    · show (S.far.set (k : Int).toNat _).getD q 0 = _
      rw [Int.toNat_natCast, getD_set_if _ _ _ _ (by rw [ok.fl]; omega), if_neg (fun e => hne e.symm)]
      exact far
theorem LaneInv.reads {N D q : Nat} {S : LS} (h : LaneInv N D q S) (hq : q < N) : hasN S.cr (q : Int) = D ∧ (fly S.ws (q : Int) : Int) = 0 ∧ hasN S.far (q : Int) = 0 ∧ (com S.bk (q : Int) : Int) = 0 := by
  have h1 : q < S.n := by rw [h.n]; exact hq
  refine ⟨by rw [hasN_at h.ok.cl h1]; exact h.cr, by rw [h.ws]; rfl, by rw [hasN_at h.ok.fl h1]; exact h.far, by rw [h.bk]; rfl⟩
/-- So many words of lane q are in the ring, nothing else. -/
structure LaneOut (N D q i : Nat) (S : LS) : Prop where
  ok : Ok S
  n : S.n = N
  r : S.r = 64
  len : S.ws.length = i
  fl : fly S.ws (q : Int) = i
  cr : S.cr.getD q 0 = (D : Int) - i
theorem LaneInv.out {N D q : Nat} {S : LS} (h : LaneInv N D q S) : LaneOut N D q 0 S := ⟨h.ok, h.n, h.r, by rw [h.ws]; rfl, by rw [h.ws]; rfl, by rw [h.cr]; simp⟩
theorem LaneOut.send {N D q i : Nat} {S : LS} (h : LaneOut N D q i S) (hq : q < N) (hi : i < D) (hD : D ≤ 5) (x : Int) : (sendF S q x).2 = 0 ∧ LaneOut N D q (i + 1) (sendF S q x).1 := by
  have hok := h.ok.send q x
  obtain ⟨ok, n, r, len, fl, cr⟩ := h
  have hin : inL S (q : Int) = true := inL_mk (by omega)
  unfold sendF at hok ⊢
  rw [if_pos hin, Int.toNat_natCast, if_neg (by omega), if_neg (by omega)] at hok ⊢
  refine ⟨rfl, hok, n, r, ?_, ?_, ?_⟩
  · simp [putS, len]
  · simp only [putS]
    rw [fly_app, fl, if_pos rfl]
  · simp only [putS]
    rw [getD_set_if _ _ _ _ (by rw [ok.cl]; omega), if_pos rfl]
    omega
theorem LaneOut.full {N D q : Nat} {S : LS} (h : LaneOut N D q D S) (hq : q < N) (x : Int) : sendF S q x = (S, 8) ∧ mayS S q = false := by
  obtain ⟨ok, n, r, len, fl, cr⟩ := h
  have hin : inL S (q : Int) = true := inL_mk (by omega)
  have hz : S.cr.getD q 0 = 0 := by omega
  constructor
  · unfold sendF
    rw [if_pos hin, Int.toNat_natCast, if_pos hz]
  · unfold mayS
    rw [Int.toNat_natCast, hz]
    simp
end Go.Proofs.Ytihfekcdghmkhaa

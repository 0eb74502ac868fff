/-
  Credits that come back: plain mathematics.
-/
import Derived.Test.YtihfekcdghmkhaaLLaneP
namespace Go.Proofs.Ytihfekcdghmkhaa
open RC (Cl zc)

structure BackInv (N : Nat) (S : LS) (tk : List Int) : Prop where
  ok : Ok S
  n : S.n = N
  d : S.d = 64
  r : S.r = 64
  ws : S.ws = []
  bk : S.bk = tk
  far : ∀ p, p < N → S.far.getD p 0 = 0
theorem BackInv.new {N : Nat} (h1 : 1 ≤ N) (h2 : N ≤ 4) : BackInv N (newS N 64 64) [] := by
  have e := newS_id (a := N) (b := 64) (c := 64) h1 (by omega) (by omega) (by omega) (by omega) (by omega)
  have o := Ok.new N 64 64
  rw [show ((64 : Nat) : Int) = 64 from rfl] at e
  rw [e] at o ⊢
  exact ⟨o, rfl, rfl, rfl, rfl, rfl, fun p hp => getD_rep _ _ _ hp⟩
theorem BackInv.cr {N : Nat} {S : LS} {tk : List Int} (h : BackInv N S tk) {p : Nat} (hp : p < N) : S.cr.getD p 0 = 64 - (com tk p : Int) := by
  have h1 := h.ok.sum p (by rw [h.n]; exact hp)
  rw [h.ws, h.bk, h.far p hp, h.d, fly_nil] at h1
  omega
theorem BackInv.round {N : Nat} {S : LS} {tk : List Int} (h : BackInv N S tk) {k : Nat} (hk : k < N) (hl : tk.length < 64) :
    ∃ S1 S2 S3, sendF S k 0 = (S1, 0) ∧ (carryF S1).1 = S2 ∧ takenF S2 k = (S3, 0) ∧ BackInv N S3 (tk ++ [(k : Int)]) ∧ hasN S3.cr (k : Int) + (com S3.bk (k : Int) : Int) = 64 := by
  have hcr := h.cr hk
  have hcom := com_le tk (k : Int)
  have hin : inL S (k : Int) = true := inL_mk (by rw [h.n]; exact hk)
  have e1 : sendF S k 0 = (putS S k 0, 0) := by
    unfold sendF
    rw [if_pos hin, Int.toNat_natCast, if_neg (by omega), if_neg (by rw [h.ws, h.r]; decide)]
  have o1 := h.ok.send k 0
  rw [e1] at o1
  have o2 := o1.carry
  have e2 : (carryF (putS S k 0)).1 = { putS S k 0 with ws := [], far := S.far.set k 1 } := by
    simp only [carryF, putS, h.ws, List.nil_append, Int.toNat_natCast, h.far k hk]
    rfl
  rw [e2] at o2
  have hfl : k < S.far.length := by rw [h.ok.fl, h.n]; exact hk
  have o3 := o2.taken k
  have e3 : takenF { putS S k 0 with ws := [], far := S.far.set k 1 } k = ({ putS S k 0 with ws := [], far := (S.far.set k 1).set k 0, bk := tk ++ [(k : Int)] }, 0) := by
    unfold takenF
    rw [if_pos (inL_mk (by show k < S.n; rw [h.n]; exact hk)), Int.toNat_natCast]
    simp only [getD_set_if _ _ _ _ hfl, if_true, backS, putS, h.bk]
    rfl
  rw [e3] at o3
  have inv : BackInv N { putS S k 0 with ws := [], far := (S.far.set k 1).set k 0, bk := tk ++ [(k : Int)] } (tk ++ [(k : Int)]) := by
    refine ⟨o3, h.n, h.d, h.r, rfl, rfl, fun p hp => ?_⟩
    show ((S.far.set k 1).set k 0).getD p 0 = 0
    rw [getD_set_if _ _ _ _ (by simpa using hfl), getD_set_if _ _ _ _ hfl]
    by_cases e : p = k
    · rw [if_pos e]
    · rw [if_neg e, if_neg e]; exact h.far p hp
  refine ⟨_, _, _, e1, e2, e3, inv, ?_⟩
  rw [hasN_at inv.ok.cl (by rw [inv.n]; exact hk), inv.cr hk]
  simp
theorem BackInv.credit {N : Nat} {S : LS} {k : Nat} {t : List Int} (h : BackInv N S ((k : Int) :: t)) (hk : k < N) :
    ∃ S1 x, hasN S.cr (k : Int) = x ∧ 0 ≤ x ∧ x ≤ 64 ∧ creditF S = (S1, 0) ∧ BackInv N S1 t ∧ hasN S1.cr (k : Int) = x + 1 := by
  have o1 := h.ok.credit
  have hcr := h.cr hk
  have hs := h.ok.sum k (by rw [h.n]; exact hk)
  have hd := h.d
  have hcl : k < S.cr.length := by rw [h.ok.cl, h.n]; exact hk
  have e1 : creditF S = ({ S with cr := S.cr.set k (S.cr.getD k 0 + 1), bk := t }, 0) := by
    unfold creditF
    rw [h.bk]
    simp only [Int.toNat_natCast]
  rw [e1] at o1
  refine ⟨_, S.cr.getD k 0, hasN_at h.ok.cl (by rw [h.n]; exact hk), by omega, by omega, e1, ⟨o1, h.n, h.d, h.r, h.ws, rfl, h.far⟩, ?_⟩
  rw [hasN_at o1.cl (by show k < S.n; rw [h.n]; exact hk)]
  show (S.cr.set k _).getD k 0 = _
  rw [getD_set_if _ _ _ _ hcl, if_pos rfl]
theorem far_zero {S : LS} (ok : Ok S) (h : ∀ p, p < S.n → S.far.getD p 0 = 0) : (S.far.all fun x => decide (x = 0)) = true := by
  rw [List.all_eq_true]
  intro x hx
  obtain ⟨i, hi, e⟩ := List.getElem_of_mem hx
  have := h i (by rw [← ok.fl]; exact hi)
  rw [List.getD_eq_getElem?_getD, List.getElem?_eq_getElem hi] at this
  simp only [Option.getD_some] at this
  rw [← e, this]
  rfl
theorem BackInv.done {N : Nat} {S : LS} (h : BackInv N S []) : creditF S = (S, 8) ∧ idleS S = true := by
  constructor
  · unfold creditF
    rw [h.bk]
  · unfold idleS
    rw [h.ws, h.bk, far_zero h.ok (fun p hp => h.far p (by rw [← h.n]; exact hp))]
    rfl
end Go.Proofs.Ytihfekcdghmkhaa

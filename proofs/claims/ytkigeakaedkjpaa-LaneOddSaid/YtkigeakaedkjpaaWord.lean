/-
  Plain: the word of a flit, the flit of a word, there and back.
-/
import Derived.Test.YtkigeakaedkjpaaSizes
namespace Go.Proofs.Ytkigeakaedkjpaa

def fits : List Int → List Nat → Prop
  | s :: r, v :: q => v < 2 ^ s.toNat ∧ fits r q
  | [], [] => True
  | _, _ => False

def sumF : List Int → Int
  | [] => 0
  | s :: r => s + sumF r

theorem fits_len : ∀ (l : List Int) (v : List Nat), fits l v → l.length = v.length
  | [], [], _ => rfl
  | _ :: r, _ :: q, h => by simp [fits_len r q h.2]
  | [], _ :: _, h => h.elim
  | _ :: _, [], h => h.elim

theorem sum_nonneg : ∀ (l : List Int) (a : Int), roomF a l = true → 0 ≤ sumF l
  | [], _, _ => Int.le_refl _
  | s :: r, a, h => by
    rw [roomF, Bool.and_eq_true] at h
    have := fld_of h.1
    have := sum_nonneg r _ h.2
    unfold sumF
    omega

theorem put_high (W a s v e : Nat) (hv : v < 2 ^ s) (h : a + s ≤ e) : putN W a s v / 2 ^ e = W / 2 ^ e := by
  apply Nat.eq_of_testBit_eq
  intro i
  rw [Nat.testBit_div_two_pow, Nat.testBit_div_two_pow, put_testBit _ _ _ _ hv, if_neg (by omega), if_neg (by omega)]

theorem getV_of {W : Nat} {a s : Int} (h : fldB a s = true) : getV W a s = W / 2 ^ a.toNat % 2 ^ s.toNat := by unfold getV; rw [if_pos h]

theorem pack_ok : ∀ (l : List Int) (v : List Nat) (a : Int) (W : Nat), roomF a l = true → fits l v → W < 18446744073709551616 → 0 ≤ a →
    (packF W a l v).2 = 0 ∧ (packF W a l v).1 < 18446744073709551616 ∧ vals (packF W a l v).1 a l = v ∧
    (∀ b t, fldB b t = true → b + t ≤ a → getV (packF W a l v).1 b t = getV W b t) ∧
    (∀ e : Nat, a + sumF l ≤ e → (packF W a l v).1 / 2 ^ e = W / 2 ^ e)
  | [], [], a, W, _, _, hW, _ => ⟨rfl, hW, rfl, fun _ _ _ _ => rfl, fun _ _ => rfl⟩
  | s :: r, v :: q, a, W, hr, hf, hW, h0 => by
    rw [roomF, Bool.and_eq_true] at hr
    have hb := fld_of hr.1
    have hv := hf.1
    have e1 : putR W a s v = (putN W a.toNat s.toNat v, 0) := by unfold putR; rw [if_pos hr.1, if_pos hv]
    have hW1 := putR_lt W a s v hW
    rw [e1] at hW1
    obtain ⟨i1, i2, i3, i4, i5⟩ := pack_ok r q (a + s) (putN W a.toNat s.toNat v) hr.2 hf.2 hW1 (by omega)
    have hp : packF W a (s :: r) (v :: q) = packF (putN W a.toNat s.toNat v) (a + s) r q := by rw [packF, e1, if_pos rfl]
    have hs := sum_nonneg r _ hr.2
    rw [hp]
    refine ⟨i1, i2, ?_, ?_, ?_⟩
    · rw [vals, i3, i4 a s hr.1 (Int.le_refl _), getV_of hr.1, get_put _ _ _ _ hv]
    · intro b t hbt hle
      have hc := fld_of hbt
      rw [i4 b t hbt (by omega), getV_of hbt, getV_of hbt, get_apart _ _ _ _ _ _ hv (by omega)]
    · intro e he
      unfold sumF at he
      rw [i5 e (by omega), put_high _ _ _ _ _ hv (by omega)]
  | [], _ :: _, _, _, _, h, _, _ => h.elim
  | _ :: _, [], _, _, _, h, _, _ => h.elim

/-- A packing that fits. -/
theorem packR_ok {l : List Int} {v : List Nat} (hr : roomF 0 l = true) (hf : fits l v) :
    (packR l v).2 = 0 ∧ (packR l v).1 < 18446744073709551616 ∧ vals (packR l v).1 0 l = v ∧ (∀ e : Nat, sumF l ≤ e → (packR l v).1 / 2 ^ e = 0) := by
  obtain ⟨i1, i2, i3, _, i5⟩ := pack_ok l v 0 0 hr hf (by decide) (by omega)
  unfold packR
  rw [if_pos ⟨fits_len l v hf, hr⟩]
  exact ⟨i1, i2, i3, fun e he => by rw [i5 e (by omega), Nat.zero_div]⟩

theorem packR_lt (l : List Int) (v : List Nat) : (packR l v).1 < 18446744073709551616 := by
  have h : ∀ (l : List Int) (v : List Nat) (a : Int) (W : Nat), W < 18446744073709551616 → (packF W a l v).1 < 18446744073709551616 := by
    intro l
    induction l with
    | nil => intro v a W h; exact h
    | cons s r ih =>
      intro v a W h
      match v with
      | [] => exact h
      | v :: q =>
        rw [packF]
        split
        · exact ih _ _ _ (putR_lt W a s v h)
        · show 0 < 18446744073709551616; decide
  unfold packR
  split
  · exact h l v 0 0 (by decide)
  · decide

theorem low_field (W a s : Nat) (h : a + s ≤ 56) : W % 2 ^ 56 / 2 ^ a % 2 ^ s = W / 2 ^ a % 2 ^ s := by
  apply Nat.eq_of_testBit_eq
  intro i
  rw [field_testBit, field_testBit, Nat.testBit_mod_two_pow]
  by_cases hi : i < s
  · have : a + i < 56 := by omega
    simp [this]
  · simp [hi]

theorem seal_low (W : Nat) : sealN W % 2 ^ 56 = W % 2 ^ 56 := by
  unfold sealN
  omega

theorem seal_field (W : Nat) (a s : Int) (h : a + s ≤ 56) : getV (sealN W) a s = getV W a s := by
  unfold getV
  split
  · rename_i hf
    have := fld_of hf
    rw [← low_field (sealN W) _ _ (by omega), seal_low, low_field W _ _ (by omega)]
  · rfl

theorem vals_alike {x y : Nat} (he : ∀ a s : Int, a + s ≤ 56 → getV x a s = getV y a s) : ∀ (l : List Int) (a : Int), roomF a l = true → a + sumF l ≤ 56 → vals x a l = vals y a l
  | [], _, _, _ => rfl
  | s :: r, a, hr, h => by
    rw [roomF, Bool.and_eq_true] at hr
    unfold sumF at h
    have hs := sum_nonneg r _ hr.2
    rw [vals, vals, he a s (by omega), vals_alike he r (a + s) hr.2 (by omega)]

theorem seal_vals (W : Nat) (l : List Int) (hr : roomF 0 l = true) (h : sumF l ≤ 56) : vals (sealN W) 0 l = vals W 0 l :=
  vals_alike (fun a s h => seal_field W a s h) l 0 hr (by omega)

def bytes (x : ByteArray) : List Nat := x.data.toList.map UInt8.toNat
def ofB (l : List Nat) : ByteArray := ⟨(l.map UInt8.ofNat).toArray⟩

theorem bytes_len (x : ByteArray) : (bytes x).length = x.size := by
  unfold bytes
  simp
theorem ofB_bytes (x : ByteArray) : ofB (bytes x) = x := by
  obtain ⟨⟨l⟩⟩ := x
  unfold ofB bytes
  have e : UInt8.ofNat ∘ UInt8.toNat = id := funext fun b => by simp
  simp [e]
theorem ofB_size (l : List Nat) : (ofB l).size = l.length := by
  unfold ofB
  show (Array.size _) = _
  simp
theorem bytes_ofB {l : List Nat} (h : ∀ v ∈ l, v < 256) : bytes (ofB l) = l := by
  unfold ofB bytes
  simp only [List.map_map]
  conv => rhs; rw [← List.map_id l]
  apply List.map_congr_left
  intro v hv
  have := h v hv
  show (UInt8.ofNat v).toNat = v
  simp
  omega

def Fl.sizes (f : Fl) : List Int := if f.k = 1 then hs else ds f.x.size
def Fl.vals (f : Fl) : List Nat := if f.k = 1 then [1, f.s.toNat, f.d.toNat, f.q.toNat, f.l.toNat, bitN f.m, bitN f.c] else f.k.toNat :: f.x.size :: bytes f.x
def Fl.word (f : Fl) : Nat := sealN (packR f.sizes f.vals).1
def Fl.wordR (f : Fl) : Nat × Int := if f.rightB = true then (f.word, 0) else (0, 1)

abbrev zf : Fl := ⟨0, 0, 0, 0, 0, false, false, ByteArray.empty⟩

/-- The flit that stands in a word's fields. -/
def decH (W : Nat) : Fl :=
  ⟨1, (Ytkigeakaedkjpaa.vals W 0 hs).getD 1 0, (Ytkigeakaedkjpaa.vals W 0 hs).getD 2 0, (Ytkigeakaedkjpaa.vals W 0 hs).getD 3 0, (Ytkigeakaedkjpaa.vals W 0 hs).getD 4 0,
    (Ytkigeakaedkjpaa.vals W 0 hs).getD 5 0 == 1, (Ytkigeakaedkjpaa.vals W 0 hs).getD 6 0 == 1, ByteArray.empty⟩
def decD (W : Nat) : Fl := ⟨(W % 4 : Nat), 0, 0, 0, 0, false, false, ofB ((Ytkigeakaedkjpaa.vals W 0 (ds (getV W 2 3))).drop 2)⟩
def dec (W : Nat) : Fl := if W % 4 = 1 then decH W else if W % 4 = 0 then zf else decD W
def readR (W : Nat) : Fl × Int := if sealN W = W then (if (dec W).wordR = (W, 0) then (dec W, 0) else (zf, 2)) else (zf, 3)

theorem ds_room : ∀ n, n ≤ 7 → roomF 0 (ds n) = true := by decide
theorem ds_sum : ∀ n, n ≤ 6 → sumF (ds n) ≤ 56 := by decide
theorem hs_room : roomF 0 hs = true := by decide
theorem hs_sum : sumF hs ≤ 56 := by decide

theorem fits_bytes : ∀ (l : List UInt8), fits (List.replicate l.length 8) (l.map UInt8.toNat)
  | [] => trivial
  | b :: l => ⟨UInt8.toNat_lt b, fits_bytes l⟩

/-- What a flit that may be is. -/
theorem right_forms {f : Fl} (h : f.rightB = true) :
    (f.k = 1 ∧ 0 ≤ f.s ∧ f.s ≤ 4095 ∧ 0 ≤ f.d ∧ f.d ≤ 4095 ∧ 0 ≤ f.q ∧ f.q ≤ 65535 ∧ 0 ≤ f.l ∧ f.l ≤ 64 ∧ f.x = ByteArray.empty) ∨
    ((f.k = 2 ∨ f.k = 3) ∧ f.s = 0 ∧ f.d = 0 ∧ f.q = 0 ∧ f.l = 0 ∧ f.m = false ∧ f.c = false ∧ f.x.size ≤ 6) := by
  by_cases h1 : f.k = 1
  · rw [fl_right_one h1, head_iff, Bool.and_eq_true] at h
    obtain ⟨a, b⟩ := h
    have a := of_decide_eq_true a
    refine Or.inl ⟨h1, a.1, a.2.1, a.2.2.1, a.2.2.2.1, a.2.2.2.2.1, a.2.2.2.2.2.1, a.2.2.2.2.2.2.1, a.2.2.2.2.2.2.2, ?_⟩
    apply toList_inj
    rw [List.isEmpty_iff.mp b]
    simp
  · have ho : f.onlyB = true := by
      apply Decidable.byContradiction
      intro hc
      rw [fl_right_bare h1 (by simpa using hc)] at h
      cases h
    have ho' := ho
    rw [fl_only_iff] at ho'
    simp only [Bool.and_eq_true, decide_eq_true_eq, Bool.not_eq_true'] at ho'
    obtain ⟨⟨b1, b2, b3, b4⟩, b5, b6⟩ := ho'
    by_cases h2 : f.k = 2
    · rw [fl_right_two h2, ho, Bool.true_and] at h
      have := of_decide_eq_true h
      exact Or.inr ⟨Or.inl h2, b1, b2, b3, b4, b5, b6, by omega⟩
    · by_cases h3 : f.k = 3
      · rw [fl_right_three h3, ho, Bool.true_and] at h
        have := of_decide_eq_true h
        exact Or.inr ⟨Or.inr h3, b1, b2, b3, b4, b5, b6, by omega⟩
      · rw [fl_right_none h1 h2 h3] at h; cases h

theorem right_fits {f : Fl} (h : f.rightB = true) : roomF 0 f.sizes = true ∧ fits f.sizes f.vals ∧ sumF f.sizes ≤ 56 := by
  rcases right_forms h with ⟨h1, a1, a2, a3, a4, a5, a6, a7, a8, _⟩ | ⟨hk, _, _, _, _, _, _, hx⟩
  · unfold Fl.sizes Fl.vals
    rw [if_pos h1, if_pos h1]
    refine ⟨hs_room, ⟨by decide, ?_, ?_, ?_, ?_, ?_, ?_, trivial⟩, hs_sum⟩
    · show f.s.toNat < 4096; omega
    · show f.d.toNat < 4096; omega
    · show f.q.toNat < 65536; omega
    · show f.l.toNat < 128; omega
    · exact bitN_lt _
    · exact bitN_lt _
  · unfold Fl.sizes Fl.vals
    rw [if_neg (by omega), if_neg (by omega)]
    refine ⟨ds_room _ (by omega), ⟨?_, ?_, ?_⟩, ds_sum _ hx⟩
    · show f.k.toNat < 4; omega
    · show f.x.size < 8; omega
    · have := fits_bytes f.x.data.toList
      rw [show f.x.data.toList.length = f.x.size by simp] at this
      exact this

theorem right_pack {f : Fl} (h : f.rightB = true) : (packR f.sizes f.vals).2 = 0 := (packR_ok (right_fits h).1 (right_fits h).2.1).1

theorem word_lt (f : Fl) : f.word < 18446744073709551616 := seal_lt _
theorem word_right (f : Fl) : sealN f.word = f.word := seal_seal _

theorem word_vals {f : Fl} (h : f.rightB = true) : Ytkigeakaedkjpaa.vals f.word 0 f.sizes = f.vals := by
  obtain ⟨r1, r2, r3⟩ := right_fits h
  unfold Fl.word
  rw [seal_vals _ _ r1 r3]
  exact (packR_ok r1 r2).2.2.1

theorem getV_02 (W : Nat) : getV W 0 2 = W % 4 := by
  unfold getV
  rw [if_pos (by decide)]
  simp

theorem word_kind {f : Fl} (h : f.rightB = true) : ((f.word % 4 : Nat) : Int) = f.k := by
  have hv := word_vals h
  rcases right_forms h with ⟨h1, _⟩ | ⟨hk, _⟩
  · unfold Fl.sizes Fl.vals at hv
    rw [if_pos h1, if_pos h1, hs, Ytkigeakaedkjpaa.vals, getV_02] at hv
    have := (List.cons.inj hv).1
    omega
  · unfold Fl.sizes Fl.vals at hv
    rw [if_neg (by omega), if_neg (by omega), ds, Ytkigeakaedkjpaa.vals, getV_02] at hv
    have := (List.cons.inj hv).1
    omega

theorem bit_back (b : Bool) : (bitN b == 1) = b := by cases b <;> rfl

theorem dec_word {f : Fl} (h : f.rightB = true) : dec f.word = f := by
  have hv := word_vals h
  have hk := word_kind h
  unfold dec
  rcases right_forms h with ⟨h1, a1, a2, a3, a4, a5, a6, a7, a8, a9⟩ | ⟨hk2, b1, b2, b3, b4, b5, b6, hx⟩
  · rw [if_pos (by omega)]
    unfold Fl.sizes Fl.vals at hv
    rw [if_pos h1, if_pos h1] at hv
    unfold decH
    rw [hv]
    obtain ⟨k, s, d, q, l, m, c, x⟩ := f
    simp only at *
    subst h1 a9
    simp [bit_back]
    omega
  · rw [if_neg (by omega), if_neg (by omega)]
    unfold Fl.sizes Fl.vals at hv
    rw [if_neg (by omega), if_neg (by omega)] at hv
    have h3 : getV f.word 2 3 = f.x.size := by
      have := hv
      rw [ds, Ytkigeakaedkjpaa.vals, Ytkigeakaedkjpaa.vals] at this
      exact (List.cons.inj (List.cons.inj this).2).1
    unfold decD
    rw [h3, hv, hk]
    show (⟨f.k, 0, 0, 0, 0, false, false, ofB (bytes f.x)⟩ : Fl) = f
    rw [ofB_bytes]
    obtain ⟨k, s, d, q, l, m, c, x⟩ := f
    simp only at *
    subst b1 b2 b3 b4 b5 b6
    rfl

theorem readR_word {f : Fl} (h : f.rightB = true) : readR f.word = (f, 0) := by
  unfold readR
  rw [if_pos (word_right f), dec_word h, if_pos]
  unfold Fl.wordR
  rw [if_pos h]

theorem word_inj {f g : Fl} (hf : f.rightB = true) (hg : g.rightB = true) : f.word = g.word ↔ f = g := by
  constructor
  · intro h
    have := dec_word hf
    rw [h, dec_word hg] at this
    exact this.symm
  · rintro rfl; rfl

/-- What is read is a flit that may be, and its word is that word. -/
theorem readR_ok {W : Nat} (h : (readR W).2 = 0) : (readR W).1.wordR = (W, 0) ∧ (readR W).1.rightB = true := by
  unfold readR at h ⊢
  by_cases h1 : sealN W = W
  · rw [if_pos h1] at h ⊢
    by_cases h2 : (dec W).wordR = (W, 0)
    · rw [if_pos h2] at h ⊢
      refine ⟨h2, ?_⟩
      unfold Fl.wordR at h2
      by_cases h3 : (dec W).rightB = true
      · exact h3
      · rw [if_neg h3] at h2
        exact absurd (Prod.mk.inj h2).2 (by decide)
    · rw [if_neg h2] at h; exact absurd h (by decide)
  · rw [if_neg h1] at h; exact absurd h (by decide)
theorem readR_no {W : Nat} (h : (readR W).2 ≠ 0) : (readR W).1 = zf ∧ ((readR W).2 = 2 ∨ (readR W).2 = 3) ∧ (sealN W = W → (readR W).2 = 2) ∧ (sealN W ≠ W → (readR W).2 = 3) := by
  unfold readR at h ⊢
  by_cases h1 : sealN W = W
  · rw [if_pos h1] at h ⊢
    by_cases h2 : (dec W).wordR = (W, 0)
    · rw [if_pos h2] at h; exact absurd rfl h
    · rw [if_neg h2]; exact ⟨rfl, Or.inl rfl, fun _ => rfl, fun c => absurd h1 c⟩
  · rw [if_neg h1]; exact ⟨rfl, Or.inr rfl, fun c => absurd c h1, fun _ => rfl⟩
end Go.Proofs.Ytkigeakaedkjpaa

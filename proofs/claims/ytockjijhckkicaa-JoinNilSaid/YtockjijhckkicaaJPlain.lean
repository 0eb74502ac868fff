/-
  Words put together, one by one, as plain mathematics (layer 11).
-/
import Derived.Test.YtockjijhckkicaaTakeR
import Derived.Test.YtockjijhckkicaaWordsJ
namespace Go.Proofs.Ytockjijhckkicaa

/-- How a word is taken: what has begun then, a packet, whether it is one, the error. -/
abbrev TakeFn := JS → Nat → JS × Pk × Bool × Int
/-- .. by its flit. -/
def Tells (T : TakeFn) : Prop := ∀ (j : JS) (f : Fl), f.rightB = true → T j f.word = takeF j f 0
def stp (T : TakeFn) (j : JS) (w : Nat) : JS := (T j w).1
def pkt (T : TakeFn) (j : JS) (w : Nat) : List Pk := if (T j w).2.2.1 = true then [(T j w).2.1] else []
def ok1 (T : TakeFn) (j : JS) (w : Nat) : Prop := (T j w).2.2.2 = 0
def run (T : TakeFn) : JS → List Nat → JS
  | j, [] => j
  | j, w :: l => run T (stp T j w) l
def pcks (T : TakeFn) : JS → List Nat → List Pk
  | _, [] => []
  | j, w :: l => pkt T j w ++ pcks T (stp T j w) l
def okR (T : TakeFn) : JS → List Nat → Prop
  | _, [] => True
  | j, w :: l => ok1 T j w ∧ okR T (stp T j w) l

section
variable {T : TakeFn}
theorem run_app : ∀ (l m : List Nat) (j : JS), run T j (l ++ m) = run T (run T j l) m
  | [], _, _ => rfl
  | w :: l, m, j => run_app l m (stp T j w)
theorem pcks_app : ∀ (l m : List Nat) (j : JS), pcks T j (l ++ m) = pcks T j l ++ pcks T (run T j l) m
  | [], _, _ => rfl
  | w :: l, m, j => by
    show pkt T j w ++ pcks T (stp T j w) (l ++ m) = (pkt T j w ++ pcks T (stp T j w) l) ++ pcks T (run T (stp T j w) l) m
    rw [pcks_app l m (stp T j w), List.append_assoc]
theorem okR_app : ∀ (l m : List Nat) (j : JS), okR T j (l ++ m) ↔ okR T j l ∧ okR T (run T j l) m
  | [], m, j => by
    show okR T j m ↔ True ∧ okR T j m
    simp
  | w :: l, m, j => by
    show (ok1 T j w ∧ okR T (stp T j w) (l ++ m)) ↔ (ok1 T j w ∧ okR T (stp T j w) l) ∧ okR T (run T (stp T j w) l) m
    rw [okR_app l m (stp T j w), and_assoc]

theorem run_one (j : JS) (w : Nat) : run T j [w] = stp T j w := rfl
theorem pcks_one (j : JS) (w : Nat) : pcks T j [w] = pkt T j w := List.append_nil _
theorem okR_one (j : JS) (w : Nat) : okR T j [w] ↔ ok1 T j w := by
  show ok1 T j w ∧ True ↔ ok1 T j w
  rw [and_true]
theorem stp_of {j : JS} {w : Nat} {a : JS} {b : Pk} {c : Bool} {e : Int} (h : T j w = (a, b, c, e)) : stp T j w = a ∧ pkt T j w = (if c = true then [b] else []) ∧ (ok1 T j w ↔ e = 0) := by
  unfold stp pkt ok1
  rw [h]
  exact ⟨rfl, rfl, Iff.rfl⟩

theorem head_step (HT : Tells T) {P : Pc} (h : P.okB = true) (h1 : 0 < P.hs.length) : T zjs (hdF P 0).word = (⟨true, P.s, (P.hs.getD 0 (0, 0)).1, (P.hs.getD 0 (0, 0)).2, ByteArray.empty, P.x.size⟩, zpk, false, 0) := by
  rw [HT _ _ (hd_right h h1)]
  rfl
theorem body_step (HT : Tells T) {x : ByteArray} {i : Nat} (hi : i < nb x.size) (s d q n : Int) (y : ByteArray) (hn : ((y ++ x.extract (6 * i) (6 * i + 6)).size : Int) ≤ n) :
    T ⟨true, s, d, q, y, n⟩ (bdF x i).word = (⟨true, s, d, q, y ++ x.extract (6 * i) (6 * i + 6), n⟩, zpk, false, 0) := by
  rw [HT _ _ (bd_right hi)]
  unfold takeF
  rw [if_neg (by simp), if_neg (by simp [bdF]), if_neg (by simp [bdF]), if_neg (by simp [bdF]), if_neg (by show ¬ n < _; have := hn; simp only [bdF]; omega)]
  rfl
theorem tail_step (HT : Tells T) {x : ByteArray} (s d q : Int) (y : ByteArray) (hy : y ++ restX x (nb x.size) = x) :
    T ⟨true, s, d, q, y, x.size⟩ (tlF x).word = (zjs, ⟨s, d, q, x⟩, true, 0) := by
  rw [HT _ _ (tl_right x)]
  unfold takeF
  have e : y ++ (tlF x).x = x := hy
  rw [if_neg (by simp), if_neg (by simp [tlF]), if_neg (by simp [tlF]), if_pos (by rfl), if_neg (by show ¬ ¬ (((y ++ (tlF x).x).size : Nat) : Int) = _; rw [e]; simp)]
  rw [e]

theorem pieces (x : ByteArray) (i : Nat) : x.extract 0 (6 * i) ++ x.extract (6 * i) (6 * i + 6) = x.extract 0 (6 * (i + 1)) := by
  apply ba_ext
  rw [app_data, ext_data, ext_data, ext_data, List.drop_zero, List.drop_zero, show 6 * (i + 1) = 6 * i + 6 by omega]
  have : x.data.toList.take (6 * i + 6) = (x.data.toList.take (6 * i + 6)).take (6 * i) ++ (x.data.toList.take (6 * i + 6)).drop (6 * i) := (List.take_append_drop _ _).symm
  rw [List.take_take, Nat.min_eq_left (by omega)] at this
  exact this.symm
theorem last_piece (x : ByteArray) (i : Nat) : x.extract 0 (6 * i) ++ restX x i = x := by
  apply ba_ext
  unfold restX
  rw [app_data, ext_data, ext_data, List.drop_zero, ba_size, List.take_length, List.take_append_drop]

theorem bodies_run (HT : Tells T) (s d q : Int) (x : ByteArray) : ∀ i, i ≤ nb x.size → okR T ⟨true, s, d, q, ByteArray.empty, x.size⟩ (bw x i) ∧ run T ⟨true, s, d, q, ByteArray.empty, x.size⟩ (bw x i) = ⟨true, s, d, q, x.extract 0 (6 * i), x.size⟩ ∧ pcks T ⟨true, s, d, q, ByteArray.empty, x.size⟩ (bw x i) = [] := by
  intro i
  induction i with
  | zero =>
    intro _
    refine ⟨trivial, ?_, rfl⟩
    rw [show x.extract 0 (6 * 0) = ByteArray.empty from ba_ext (by rw [ext_data]; rfl)]
    rfl
  | succ i ih =>
    intro hi
    obtain ⟨i1, i2, i3⟩ := ih (by omega)
    have hstep := body_step HT (x := x) (i := i) (by omega) s d q x.size (x.extract 0 (6 * i)) (by
      rw [pieces, ByteArray.size_extract]
      omega)
    rw [pieces] at hstep
    obtain ⟨t1, t2, t3⟩ := stp_of hstep
    rw [← bw_snoc, okR_app, run_app, pcks_app, i2, i3, okR_one, run_one, pcks_one, t1, t2, t3]
    exact ⟨⟨i1, rfl⟩, rfl, rfl⟩

/-- P11.2, of one parcel: its words are put together as its packet, and nothing is begun any more. -/
theorem ws_run (HT : Tells T) {P : Pc} (h : P.okB = true) (h1 : P.hs.length = 1) : okR T zjs P.ws ∧ run T zjs P.ws = zjs ∧ pcks T zjs P.ws = pks P := by
  have hh := head_step HT h (by omega)
  obtain ⟨b1, b2, b3⟩ := bodies_run HT P.s (P.hs.getD 0 (0, 0)).1 (P.hs.getD 0 (0, 0)).2 P.x (nb P.x.size) (Nat.le_refl _)
  have ht := tail_step HT (x := P.x) P.s (P.hs.getD 0 (0, 0)).1 (P.hs.getD 0 (0, 0)).2 (P.x.extract 0 (6 * nb P.x.size)) (last_piece _ _)
  have hw1 : hw P P.hs.length = [(hdF P 0).word] := by
    rw [h1]
    rfl
  obtain ⟨t1, t2, t3⟩ := stp_of hh
  obtain ⟨u1, u2, u3⟩ := stp_of ht
  rw [ws_parts, hw1]
  simp only [okR_app, run_app, pcks_app, okR_one, run_one, pcks_one, t1, t2, t3, b2, b3, u1, u2, u3, and_true, true_and]
  refine ⟨b1, ?_⟩
  obtain ⟨s, c, hs, x⟩ := P
  match hs, h1 with
  | [z], _ => rfl

/-- .. and of several, one behind the other. -/
theorem wj_run (HT : Tells T) (ps : List Pc) : ∀ k, okR T zjs (wj ps k) ∧ run T zjs (wj ps k) = zjs ∧ pcks T zjs (wj ps k) = kj ps k := by
  intro k
  induction k with
  | zero => exact ⟨trivial, rfl, rfl⟩
  | succ k ih =>
    obtain ⟨i1, i2, i3⟩ := ih
    cases hp : ps[k]? with
    | none =>
      have e : ps.take (k + 1) = ps.take k := by rw [List.take_add_one, hp]; simp
      have e1 : wj ps (k + 1) = wj ps k := by unfold wj; rw [e]
      have e2 : kj ps (k + 1) = kj ps k := by unfold kj; rw [e]
      rw [e1, e2]
      exact ⟨i1, i2, i3⟩
    | some p =>
      have h1 : (g8 p).hs.length = 1 := by
        have := (gH_len false p.hs).2.2
        show (gH false p.hs).length = 1
        simpa using this
      obtain ⟨j1, j2, j3⟩ := ws_run HT (gd_ok ⟨p.s, false, p.hs, p.x⟩) h1
      rw [wj_step hp, kj_step hp, okR_app, run_app, pcks_app, i2, i3]
      exact ⟨⟨i1, j1⟩, j2, congrArg _ j3⟩
/-- One word that is taken: whether one has begun then, and how many packets are told. -/
theorem ok_step {f : Fl} {e : Int} {j : JS} {w : Nat} (HT : T j w = takeF j f e) (h : ok1 T j w) : (stp T j w).b = decide (¬ f.k = 3) ∧ (pkt T j w).length = if f.k = 3 then 1 else 0 := by
  unfold ok1 at h
  unfold stp pkt
  rw [HT] at h ⊢
  unfold takeF at h ⊢
  by_cases he : ¬ e = 0
  · rw [if_pos he] at h
    exact absurd h he
  rw [if_neg he] at h ⊢
  by_cases h1 : decide (f.k = 1) = j.b
  · rw [if_pos h1] at h
    cases h
  rw [if_neg h1] at h ⊢
  by_cases h2 : f.k = 1
  · rw [if_pos h2]
    simp [h2]
  rw [if_neg h2] at h ⊢
  have hb : j.b = true := by
    cases hb : j.b
    · simp [h2, hb] at h1
    · rfl
  by_cases h3 : f.k = 3
  · rw [if_pos h3] at h ⊢
    by_cases h4 : ¬ ((j.x ++ f.x).size : Int) = j.n
    · rw [if_pos h4] at h
      cases h
    · rw [if_neg h4]
      simp [h3]
  · rw [if_neg h3] at h ⊢
    by_cases h4 : j.n < ((j.x ++ f.x).size : Int)
    · rw [if_pos h4] at h
      cases h
    · rw [if_neg h4]
      simp [h3, hb]
end
theorem takeR_tells : Tells takeR := fun j f h => by
  unfold takeR
  rw [readR_word h]
end Go.Proofs.Ytockjijhckkicaa

/-
  A packet by value. No function in it.
  An inbox as lists: what is in it, what waits, the next numbers; what its calls come to. Plain: no walk.
  A map by what it holds, entry by entry, in the row in which they were laid; what the operations on it do; a loop over it. No function in it.
  Slices that read as a list; blocks that hold given cells; what may have turned; rows of the call's own. No function in it, no type of the program's: for any seat.
  What a call on an object of several blocks may turn: a footprint (which blocks are its), what is kept beside it. No function in it.
  The walks of Len, limit, place, Counts and Room over known cells.
  What a ring is in memory (RingAt), what may turn (Fr), and plain lemmas on them.
  Peek, Publish, Free over a ring.
  All over a ring.
  widen over a ring.
  Lay, Push, Pop over a ring.
  Each call of a ring as one contract with plain functions on the state.
  A ring that has just been made.
-/
import Derived.Test.YtoejpngdkcnnhaaGreatProg
import Derived.WalkKit
import Derived.Maps.RangeWalk
import Derived.WideKeyPair
import Derived.BigQuiet
import Derived.Deep.QuietTactic
import Derived.WalkSpells
import Derived.WalkLawsBesides
import Derived.KernelRfl
import Derived.WalkSmall
import Derived.OwnWalk
import Derived.ProofKit
import Derived.Maps.AppendAt
import Derived.Deep.RegionHeld3
import Derived.Deep.CutRange
import Derived.Laws.OwnMore
import Derived.OrdersHeld
import Derived.Test.YtoejpngdkcnnhaaGreatCut

namespace Go.Proofs.YtoejpngdkcnnhaaGreat.I
open Go.RowKit

/-- A packet by value: by whom, to whom, its number, its bytes. -/
structure Pk where
  s : Int
  d : Int
  q : Int
  x : ByteArray
abbrev zpk : Pk := ⟨0, 0, 0, ⟨#[]⟩⟩
abbrev pkc (p : Pk) : Array Value := #[.int .i64 p.s, .int .i64 p.d, .int .i64 p.q, .string p.x]
abbrev pkv (p : Pk) : Value := .agg (pkc p)
/-- Its cells. -/
abbrev pk4 (p : Pk) : List Value := [.int .i64 p.s, .int .i64 p.d, .int .i64 p.q, .string p.x]
end Go.Proofs.YtoejpngdkcnnhaaGreat.I

namespace Go.Proofs.YtoejpngdkcnnhaaGreat.I

structure IS where
  n : Nat
  L : List Pk
  W : List Pk
  nx : Int → Int
def inR (p : Pk) : Prop := 0 ≤ p.s ∧ p.s < 4096 ∧ 0 ≤ p.q ∧ p.q < 65536
instance (p : Pk) : Decidable (inR p) := inferInstanceAs (Decidable (_ ∧ _))
/-- Of those that are their source's next one, that of the least source. -/
def pick (nx : Int → Int) : List Pk → Option Pk
  | [] => none
  | p :: l => match pick nx l with
    | none => if p.q = nx p.s then some p else none
    | some r => if p.q = nx p.s ∧ p.s ≤ r.s then some p else some r
/-- No two of one source and number. -/
def Apart (W : List Pk) : Prop := W.Pairwise (fun x y => ¬ (x.s = y.s ∧ x.q = y.q))
structure IOk (S : IS) : Prop where
  n1 : 1 ≤ S.n
  n64 : S.n ≤ 64
  len : S.L.length ≤ S.n
  rng : ∀ p ∈ S.W, inR p
  ap : Apart S.W
  nx0 : ∀ s, 0 ≤ S.nx s ∧ S.nx s < 65536
def newI (n : Nat) : IS := ⟨n, [], [], fun _ => 0⟩
def has (W : List Pk) (p : Pk) : Bool := W.any fun r => r.s == p.s && r.q == p.q
def comeE (S : IS) (p : Pk) : Int := if inR p then (if has S.W p then 13 else 0) else 1
def comeS (S : IS) (p : Pk) : IS := if inR p then (if has S.W p then S else { S with W := S.W ++ [p] }) else S
def strike (W : List Pk) (p : Pk) : List Pk := W.filter fun r => !(r.s == p.s && r.q == p.q)
def upd (nx : Int → Int) (s q : Int) : Int → Int := fun x => if x = s then q else nx x
def rdy (S : IS) : Option Pk := pick S.nx S.W
def tellB (S : IS) : Bool := decide (S.L.length < S.n) && (rdy S).isSome
def told (S : IS) (p : Pk) : IS := { S with L := S.L ++ [p], W := strike S.W p, nx := upd S.nx p.s ((p.q + 1) % 65536) }
def tellS (S : IS) : IS := if S.L.length < S.n then (match rdy S with | none => S | some p => told S p) else S
def recvV (S : IS) : Pk := S.L.headD zpk
def recvE (S : IS) : Int := if S.L = [] then 8 else 0
def recvS (S : IS) : IS := { S with L := S.L.tail }

theorem has_iff {W : List Pk} {p : Pk} : has W p = true ↔ ∃ r ∈ W, r.s = p.s ∧ r.q = p.q := by
  unfold has
  simp
theorem has_not {W : List Pk} {p : Pk} : has W p = false ↔ ∀ r ∈ W, ¬ (r.s = p.s ∧ r.q = p.q) := by
  rw [← Bool.not_eq_true, has_iff]
  exact ⟨fun h r hr hc => h ⟨r, hr, hc⟩, fun h ⟨r, hr, hc⟩ => h r hr hc⟩
theorem pick_none {nx : Int → Int} : ∀ {W : List Pk}, pick nx W = none → ∀ p ∈ W, p.q ≠ nx p.s
  | [], _, p, hp => by cases hp
  | x :: l, h, p, hp => by
    unfold pick at h
    split at h
    · rename_i h0
      split at h
      · cases h
      · rename_i hx
        rcases List.mem_cons.1 hp with rfl | hp
        · exact hx
        · exact pick_none h0 p hp
    · split at h <;> cases h
theorem pick_some {nx : Int → Int} : ∀ {W : List Pk} {p : Pk}, pick nx W = some p → p ∈ W ∧ p.q = nx p.s ∧ ∀ r ∈ W, r.q = nx r.s → p.s ≤ r.s
  | [], _, h => by cases h
  | x :: l, p, h => by
    unfold pick at h
    split at h
    · rename_i h0
      split at h
      · rename_i hx
        cases h
        refine ⟨List.mem_cons_self, hx, fun r hr hq => ?_⟩
        rcases List.mem_cons.1 hr with rfl | hr
        · exact Int.le_refl _
        · exact absurd hq (pick_none h0 r hr)
      · cases h
    · rename_i r0 h0
      obtain ⟨a1, a2, a3⟩ := pick_some h0
      split at h
      · rename_i hx
        cases h
        refine ⟨List.mem_cons_self, hx.1, fun r hr hq => ?_⟩
        rcases List.mem_cons.1 hr with rfl | hr
        · exact Int.le_refl _
        · exact Int.le_trans hx.2 (a3 r hr hq)
      · rename_i hx
        cases h
        refine ⟨List.mem_cons_of_mem _ a1, a2, fun r hr hq => ?_⟩
        rcases List.mem_cons.1 hr with rfl | hr
        · have : ¬ r.s ≤ p.s := fun c => hx ⟨hq, c⟩
          omega
        · exact a3 r hr hq
theorem apart_uniq : ∀ {W : List Pk} (_ : Apart W) {x y : Pk}, x ∈ W → y ∈ W → x.s = y.s → x.q = y.q → x = y
  | [], _, _, _, hx, _, _, _ => by cases hx
  | a :: l, h, x, y, hx, hy, h1, h2 => by
    obtain ⟨k1, k2⟩ := List.pairwise_cons.1 h
    rcases List.mem_cons.1 hx with ex | hx
    · rcases List.mem_cons.1 hy with ey | hy
      · rw [ex, ey]
      · exact absurd ⟨by rw [← ex]; exact h1, by rw [← ex]; exact h2⟩ (k1 y hy)
    · rcases List.mem_cons.1 hy with ey | hy
      · exact absurd ⟨by rw [← ey]; exact h1.symm, by rw [← ey]; exact h2.symm⟩ (k1 x hx)
      · exact apart_uniq k2 hx hy h1 h2
/-- It hangs on no row. -/
theorem pick_uniq {nx : Int → Int} {W : List Pk} (hW : Apart W) {p : Pk} (hp : p ∈ W) (hq : p.q = nx p.s) (hl : ∀ r ∈ W, r.q = nx r.s → p.s ≤ r.s) : pick nx W = some p := by
  cases h : pick nx W with
  | none => exact absurd hq (pick_none h p hp)
  | some r =>
    obtain ⟨a1, a2, a3⟩ := pick_some h
    have e : r.s = p.s := Int.le_antisymm (a3 p hp hq) (hl r a1 a2)
    rw [apart_uniq hW a1 hp e (by rw [a2, hq, e])]
theorem pick_no {nx : Int → Int} {W : List Pk} (h : ∀ p ∈ W, p.q ≠ nx p.s) : pick nx W = none := by
  cases e : pick nx W with
  | none => rfl
  | some r => exact absurd (pick_some e).2.1 (h r (pick_some e).1)
theorem pick_congr {nx nx' : Int → Int} : ∀ {W : List Pk}, (∀ p ∈ W, nx p.s = nx' p.s) → pick nx W = pick nx' W
  | [], _ => rfl
  | x :: l, h => by
    unfold pick
    rw [pick_congr fun p hp => h p (List.mem_cons_of_mem _ hp), h x List.mem_cons_self]
theorem strike_cut {W : List Pk} (hW : Apart W) {A B : List Pk} {p : Pk} (e : W = A ++ p :: B) : strike W p = A ++ B := by
  subst e
  unfold Apart at hW
  rw [List.pairwise_append, List.pairwise_cons] at hW
  obtain ⟨_, ⟨h2, _⟩, h3⟩ := hW
  unfold strike
  rw [List.filter_append, List.filter_cons_of_neg (by simp), List.filter_eq_self.2, List.filter_eq_self.2]
  · intro x hx
    have := h2 x hx
    simp only [Bool.not_eq_true', Bool.and_eq_false_iff, beq_eq_false_iff_ne]
    by_cases c : x.s = p.s
    · exact Or.inr fun c' => this ⟨c.symm, c'.symm⟩
    · exact Or.inl c
  · intro x hx
    have := h3 x hx p List.mem_cons_self
    simp only [Bool.not_eq_true', Bool.and_eq_false_iff, beq_eq_false_iff_ne]
    by_cases c : x.s = p.s
    · exact Or.inr fun c' => this ⟨c, c'⟩
    · exact Or.inl c
theorem mem_strike {W : List Pk} {p r : Pk} : r ∈ strike W p ↔ r ∈ W ∧ ¬ (r.s = p.s ∧ r.q = p.q) := by
  unfold strike
  rw [List.mem_filter]
  refine and_congr_right fun _ => ?_
  by_cases h : r.s = p.s <;> simp [h]
theorem Apart.strike {W : List Pk} (h : Apart W) (p : Pk) : Apart (strike W p) := List.Pairwise.filter _ h
theorem Apart.snoc {W : List Pk} (h : Apart W) {p : Pk} (hp : has W p = false) : Apart (W ++ [p]) := by
  unfold Apart at *
  rw [List.pairwise_append]
  refine ⟨h, List.pairwise_singleton _ _, fun a ha b hb => ?_⟩
  rw [List.mem_singleton.1 hb]
  exact has_not.1 hp a ha
theorem len_strike {W : List Pk} (hW : Apart W) {p : Pk} (hp : p ∈ W) : (strike W p).length + 1 = W.length := by
  obtain ⟨A, B, e⟩ := List.append_of_mem hp
  rw [strike_cut hW e, e]
  simp
  omega
theorem IOk.new {n : Nat} (h1 : 1 ≤ n) (h2 : n ≤ 64) : IOk (newI n) := ⟨h1, h2, Nat.zero_le _, fun _ h => (by cases h), List.Pairwise.nil, fun _ => ⟨Int.le_refl 0, show (0 : Int) < 65536 by decide⟩⟩
theorem IOk.come {S : IS} (h : IOk S) (p : Pk) : IOk (comeS S p) := by
  unfold comeS
  by_cases hr : inR p
  · rw [if_pos hr]
    cases hh : has S.W p
    · refine ⟨h.n1, h.n64, h.len, fun r hrm => ?_, h.ap.snoc hh, h.nx0⟩
      rcases List.mem_append.1 hrm with hrm | hrm
      · exact h.rng r hrm
      · rw [List.mem_singleton.1 hrm]; exact hr
    · exact h
  · rw [if_neg hr]; exact h
theorem IOk.told {S : IS} (h : IOk S) {p : Pk} (hl : S.L.length < S.n) : IOk (told S p) := by
  refine ⟨h.n1, h.n64, ?_, fun r hr => h.rng r (mem_strike.1 hr).1, h.ap.strike p, fun s => ?_⟩
  · simp [Proofs.YtoejpngdkcnnhaaGreat.I.told]; omega
  · show 0 ≤ upd S.nx p.s ((p.q + 1) % 65536) s ∧ upd S.nx p.s ((p.q + 1) % 65536) s < 65536
    unfold upd
    split
    · omega
    · exact h.nx0 s
theorem IOk.tell {S : IS} (h : IOk S) : IOk (tellS S) := by
  unfold tellS
  by_cases hl : S.L.length < S.n
  · rw [if_pos hl]
    cases rdy S with
    | none => exact h
    | some p => exact h.told hl
  · rw [if_neg hl]; exact h
theorem IOk.recv {S : IS} (h : IOk S) : IOk (recvS S) := ⟨h.n1, h.n64, by have := h.len; simp [recvS]; omega, h.rng, h.ap, h.nx0⟩

theorem tell_cases (S : IS) : (S.L.length < S.n ∧ ((rdy S = none ∧ tellS S = S ∧ tellB S = false) ∨ ∃ p, rdy S = some p ∧ tellS S = told S p ∧ tellB S = true)) ∨ (¬ S.L.length < S.n ∧ tellS S = S ∧ tellB S = false) := by
  unfold tellS tellB
  by_cases h : S.L.length < S.n
  · rw [if_pos h]
    refine Or.inl ⟨h, ?_⟩
    cases rdy S with
    | none => exact Or.inl ⟨rfl, rfl, by simp⟩
    | some p => exact Or.inr ⟨p, rfl, rfl, by simpa using h⟩
  · rw [if_neg h]
    exact Or.inr ⟨h, rfl, by simp [h]⟩
/-- Next numbers as a list of pairs. -/
def nxL : List (Int × Int) → Int → Int
  | [], _ => 0
  | x :: l, s => if x.1 = s then x.2 else nxL l s
theorem nxL_out : ∀ {l : List (Int × Int)} {s : Int}, (∀ x ∈ l, x.1 ≠ s) → nxL l s = 0
  | [], _, _ => rfl
  | x :: l, s, h => by
    unfold nxL
    rw [if_neg (h x List.mem_cons_self)]
    exact nxL_out fun y hy => h y (List.mem_cons_of_mem _ hy)
theorem nxL_in : ∀ {l : List (Int × Int)} {x : Int × Int}, l.Pairwise (fun x y => x.1 ≠ y.1) → x ∈ l → nxL l x.1 = x.2
  | [], _, _, h => by cases h
  | y :: l, x, hp, h => by
    obtain ⟨h1, h2⟩ := List.pairwise_cons.1 hp
    unfold nxL
    rcases List.mem_cons.1 h with rfl | h
    · rw [if_pos rfl]
    · rw [if_neg (h1 x h)]
      exact nxL_in h2 h
theorem nxL_put {A B : List (Int × Int)} {s q q' : Int} (hp : (A ++ (s, q) :: B).Pairwise (fun x y => x.1 ≠ y.1)) (x : Int) : nxL (A ++ (s, q') :: B) x = if x = s then q' else nxL (A ++ (s, q) :: B) x := by
  induction A with
  | nil =>
    simp only [List.nil_append, nxL]
    by_cases h : x = s
    · subst h; simp
    · rw [if_neg h, if_neg fun c => h c.symm, if_neg fun c => h c.symm]
  | cons y A ih =>
    rw [List.cons_append, List.pairwise_cons] at hp
    simp only [List.cons_append, nxL]
    by_cases hy : y.1 = x
    · rw [if_pos hy, if_pos hy, if_neg]
      intro c
      exact hp.1 (s, q) (by simp) (hy.trans c)
    · rw [if_neg hy, if_neg hy]
      exact ih hp.2
theorem nxL_snoc {l : List (Int × Int)} {s q : Int} (hn : ∀ x ∈ l, x.1 ≠ s) (x : Int) : nxL (l ++ [(s, q)]) x = if x = s then q else nxL l x := by
  induction l with
  | nil =>
    simp only [List.nil_append, nxL]
    by_cases h : x = s
    · subst h; simp
    · rw [if_neg h, if_neg fun c => h c.symm]
  | cons y l ih =>
    simp only [List.cons_append, nxL]
    by_cases hy : y.1 = x
    · rw [if_pos hy, if_pos hy, if_neg]
      intro c
      exact hn y (by simp) (hy.trans c)
    · rw [if_neg hy, if_neg hy]
      exact ih fun z hz => hn z (List.mem_cons_of_mem _ hz)
end Go.Proofs.YtoejpngdkcnnhaaGreat.I

namespace Go.Proofs.YtoejpngdkcnnhaaGreat.I
open Go.RowKit Go.ChangeMaps Go.MapKept
open Go.Maps (Keyed)

/-- An entry's key and element. -/
abbrev kv (e : MapEntry) : Value × Value := (e.key, e.val)
/-- Block b is a map that holds just these. -/
def MpAt (w : World) (b : Nat) (M : List (Value × Value)) : Prop :=
  ∃ es clock, w.heap[b]? = some (.map es clock) ∧ Stamped es clock ∧ es.toList.map kv = M
/-- A key of type k. -/
def Kd (P : Program) (k : TypeId) (v : Value) : Prop := ∃ l, keyOf P k v = some l
def Kds (P : Program) (k : TypeId) (M : List (Value × Value)) : Prop := ∀ p ∈ M, Kd P k p.1
/-- A loop over it under way: these are to come. -/
def Going (w : World) (b r : Nat) (M left : List (Value × Value)) : Prop :=
  ∃ es clock since seen c0, w.heap[b]? = some (.map es clock) ∧ Stamped es clock ∧ es.toList.map kv = M ∧ w.heap[r]? = some (.mapIter (some b) since seen c0) ∧
    (∀ x ∈ es.toList, x.born < since) ∧ (leftOf es seen).toList.map kv = left ∧ since ≤ c0 ∧ since ≤ clock

section
variable {P : Program} {k e t : TypeId} {w : World} {b r : Nat} {M left : List (Value × Value)}

theorem MpAt.lt (h : MpAt w b M) : b < w.heap.size := by
  obtain ⟨es, clock, hb, _⟩ := h
  exact (Array.getElem?_eq_some_iff.1 hb).1
theorem MpAt.keep {w' : World} (h : MpAt w b M) (e : w'.heap[b]? = w.heap[b]?) : MpAt w' b M := by
  obtain ⟨es, clock, hb, r⟩ := h
  exact ⟨es, clock, e.trans hb, r⟩
theorem MpAt.made (w : World) : MpAt (w.alloc (.map #[] 0)) w.heap.size [] := ⟨#[], 0, (MapKept.heap_alloc w _).1, stamped_empty 0, rfl⟩
theorem MpAt.apart (h : MpAt w b M) : M.Pairwise (fun x y => x.1 ≠ y.1) := by
  obtain ⟨es, clock, _, hst, rfl⟩ := h
  rw [List.pairwise_map]
  exact ((stamped_iff es clock).1 hst).2.2
theorem kds_of {es : Array MapEntry} (hM : Kds P k (es.toList.map kv)) : ∀ e ∈ es.toList, ∃ l, keyOf P k e.key = some l := fun e he => hM (kv e) (List.mem_map.2 ⟨e, he, rfl⟩)
theorem MpAt.look_in (h : MpAt w b M) (K : Keyed P k) (ht : P.underlying t = some (.map k e)) (hM : Kds P k M) {key v : Value} (hm : (key, v) ∈ M) (c : Bool) :
    (Instr.lookup t (.map (some b)) key c).run P w = .ok (if c then .tuple #[v, .bool true] else v) w := by
  obtain ⟨l, hl⟩ := hM _ hm
  obtain ⟨es, clock, hb, hst, rfl⟩ := h
  obtain ⟨e0, he0, hk⟩ := List.mem_map.1 hm
  rcases K.find w hl es.toList (kds_of hM) with ⟨h1, h2⟩ | ⟨j, e1, h1, h2, h3⟩
  · exact absurd (congrArg Prod.fst hk) (h2 e0 he0)
  · obtain rfl : e1 = e0 := entry_eq_of_key ((stamped_iff es clock).1 hst).2.2 (List.mem_of_getElem? h2) he0 (h3.trans (congrArg Prod.fst hk).symm)
    obtain rfl : e1.val = v := congrArg Prod.snd hk
    simp [Instr.lookup, run_underlying ht, MapKept.run_getObj_map hb, K.check w _ hl, h1, Result.andThen]
theorem MpAt.look_out (h : MpAt w b M) (K : Keyed P k) (ht : P.underlying t = some (.map k e)) (hM : Kds P k M) {key z : Value} (hk : Kd P k key) (hn : ∀ p ∈ M, p.1 ≠ key) (hz : (zeroValue e).run P w = .ok z w) (c : Bool) :
    (Instr.lookup t (.map (some b)) key c).run P w = .ok (if c then .tuple #[z, .bool false] else z) w := by
  obtain ⟨l, hl⟩ := hk
  obtain ⟨es, clock, hb, hst, rfl⟩ := h
  rcases K.find w hl es.toList (kds_of hM) with ⟨h1, h2⟩ | ⟨j, e1, h1, h2, h3⟩
  · simp [Instr.lookup, run_underlying ht, MapKept.run_getObj_map hb, K.check w _ hl, h1, hz, Result.andThen]
  · exact absurd h3 (hn (kv e1) (List.mem_map.2 ⟨e1, List.mem_of_getElem? h2, rfl⟩))
/-- One more. -/
theorem MpAt.put_new (h : MpAt w b M) (K : Keyed P k) (ht : P.underlying t = some (.map k e)) (hM : Kds P k M) {key v : Value} (hk : Kd P k key) (hn : ∀ p ∈ M, p.1 ≠ key) :
    ∃ w', (Instr.mapUpdate t (.map (some b)) key v).run P w = .ok () w' ∧ MpAt w' b (M ++ [(key, v)]) ∧ w.mapTurned w' b := by
  obtain ⟨l, hl⟩ := hk
  obtain ⟨es, clock, hb, hst, rfl⟩ := h
  rcases K.find w hl es.toList (kds_of hM) with ⟨h1, h2⟩ | ⟨j, e1, h1, h2, h3⟩
  · refine ⟨setBlock w b (.map (es.push ⟨key, v, clock⟩) (clock + 1)), ?_, ⟨_, _, heap_setBlock_same hb _, stamped_push hst h2, by simp⟩, ⟨_, _, _, _, hb, rfl⟩⟩
    simp [Instr.mapUpdate, run_underlying ht, MapKept.run_getObj_map hb, K.check w false hl, h1, MapKept.run_setObj_map _ hb, Result.andThen, setBlock]
  · exact absurd h3 (hn (kv e1) (List.mem_map.2 ⟨e1, List.mem_of_getElem? h2, rfl⟩))
/-- Another element at a key that is there. -/
theorem MpAt.put_old {A B : List (Value × Value)} {key v v0 : Value} (h : MpAt w b (A ++ (key, v0) :: B)) (K : Keyed P k) (ht : P.underlying t = some (.map k e)) (hM : Kds P k (A ++ (key, v0) :: B)) :
    ∃ w', (Instr.mapUpdate t (.map (some b)) key v).run P w = .ok () w' ∧ MpAt w' b (A ++ (key, v) :: B) ∧ w.mapTurned w' b := by
  obtain ⟨l, hl⟩ := hM (key, v0) (by simp)
  have hap := h.apart
  obtain ⟨es, clock, hb, hst, hM'⟩ := h
  rw [← hM'] at hM
  rcases K.find w hl es.toList (kds_of hM) with ⟨h1, h2⟩ | ⟨j, e1, h1, h2, h3⟩
  · have : (key, v0) ∈ es.toList.map kv := by rw [hM']; simp
    obtain ⟨e0, he0, hk⟩ := List.mem_map.1 this
    exact absurd (congrArg Prod.fst hk) (h2 e0 he0)
  · have hj : es[j]? = some e1 := by simpa using h2
    have hjA : j = A.length := by
      have e2 : (A ++ (key, v0) :: B)[j]? = some (kv e1) := by rw [← hM', List.getElem?_map, h2]; rfl
      rw [List.pairwise_iff_getElem] at hap
      have hlt : j < (A ++ (key, v0) :: B).length := (List.getElem?_eq_some_iff.1 e2).1
      have e3 : (A ++ (key, v0) :: B)[j].1 = key := by rw [(List.getElem?_eq_some_iff.1 e2).2]; exact h3
      have e4 : (A ++ (key, v0) :: B)[A.length]'(by simp) = (key, v0) := by simp
      rcases Nat.lt_trichotomy j A.length with c | c | c
      · exact absurd (e3.trans (by rw [e4])) (hap j A.length hlt (by simp) c)
      · exact c
      · exact absurd ((by rw [e4] : _ = key).trans e3.symm) (hap A.length j (by simp) hlt c)
    have hkeyf : ∀ e', es[j]? = some e' → ({ e' with key := key, val := v } : MapEntry).key = e'.key := fun e' he' => by rw [hj] at he'; cases he'; exact h3.symm
    have hlist : (es.modify j (fun e' => { e' with key := key, val := v })).toList = es.toList.set j { e1 with key := key, val := v } := by rw [Array.toList_modify, modify_eq_set _ _ _ _ h2]
    refine ⟨setBlock w b (.map (es.modify j (fun e' => { e' with key := key, val := v })) clock), ?_, ⟨_, _, heap_setBlock_same hb _, stamped_modify hst _ _ (fun _ _ => rfl) (fun e' _ he' => hkeyf e' he'), ?_⟩, ⟨_, _, _, _, hb, rfl⟩⟩
    · simp [Instr.mapUpdate, run_underlying ht, MapKept.run_getObj_map hb, K.check w false hl, h1, hj, h3, K.stays w hl, MapKept.run_setObj_map _ hb, Result.andThen, setBlock]
    · rw [hlist, List.map_set, hM', hjA]
      simp
/-- A key that is there is struck. -/
theorem MpAt.del {A B : List (Value × Value)} {key v0 : Value} (h : MpAt w b (A ++ (key, v0) :: B)) (K : Keyed P k) (ht : P.underlying t = some (.map k e)) (hM : Kds P k (A ++ (key, v0) :: B)) (ty : TypeId) :
    ∃ w', (Builtin.delete_ #[t, k] ty #[.map (some b), key]).run P w = .ok (.tuple #[]) w' ∧ MpAt w' b (A ++ B) ∧ w.mapTurned w' b := by
  obtain ⟨l, hl⟩ := hM (key, v0) (by simp)
  have hap := h.apart
  obtain ⟨es, clock, hb, hst, hM'⟩ := h
  rw [← hM'] at hM
  rcases K.find w hl es.toList (kds_of hM) with ⟨h1, h2⟩ | ⟨j, e1, h1, h2, h3⟩
  · have : (key, v0) ∈ es.toList.map kv := by rw [hM']; simp
    obtain ⟨e0, he0, hk⟩ := List.mem_map.1 this
    exact absurd (congrArg Prod.fst hk) (h2 e0 he0)
  · have hjs : j < es.size := by have := (List.getElem?_eq_some_iff.1 h2).1; simpa using this
    have hsub : (es.eraseIdxIfInBounds j).toList = es.toList.eraseIdx j := by
      unfold Array.eraseIdxIfInBounds
      rw [dif_pos hjs]
      simp
    have hjA : j = A.length := by
      have e2 : (A ++ (key, v0) :: B)[j]? = some (kv e1) := by rw [← hM', List.getElem?_map, h2]; rfl
      rw [List.pairwise_iff_getElem] at hap
      have hlt : j < (A ++ (key, v0) :: B).length := (List.getElem?_eq_some_iff.1 e2).1
      have e3 : (A ++ (key, v0) :: B)[j].1 = key := by rw [(List.getElem?_eq_some_iff.1 e2).2]; exact h3
      have e4 : (A ++ (key, v0) :: B)[A.length]'(by simp) = (key, v0) := by simp
      rcases Nat.lt_trichotomy j A.length with c | c | c
      · exact absurd (e3.trans (by rw [e4])) (hap j A.length hlt (by simp) c)
      · exact c
      · exact absurd ((by rw [e4] : _ = key).trans e3.symm) (hap A.length j (by simp) hlt c)
    refine ⟨setBlock w b (.map (es.eraseIdxIfInBounds j) clock), ?_, ⟨_, _, heap_setBlock_same hb _, stamped_erase hst j, ?_⟩, ⟨_, _, _, _, hb, rfl⟩⟩
    · simp [Builtin.delete_, run_underlying ht, MapKept.run_getObj_map hb, K.check w _ hl, h1, MapKept.run_setObj_map _ hb, Result.andThen, setBlock]
    · rw [hsub, map_eraseIdx, hM', hjA, List.eraseIdx_append_of_length_le (Nat.le_refl _)]
      simp
theorem MpAt.len (h : MpAt w b M) (ht : P.underlying t = some (.map k e)) (ty : TypeId) : (Builtin.len_ #[t] ty #[.map (some b)]).run P w = .ok (.int .i64 M.length) w := by
  obtain ⟨es, clock, hb, _, rfl⟩ := h
  simp [Builtin.len_, run_underlying ht, MapKept.run_getObj_map hb, goInt, Result.andThen]
theorem turned_grown {w' : World} (h : w.mapTurned w' b) : w.grownBy w' (some b) := h.grown
theorem turned_size {w' : World} (h : w.mapTurned w' b) : w'.heap.size = w.heap.size := by
  obtain ⟨es, clock, es', clock', hb, rfl⟩ := h
  simp [setBlock]
/-- A loop over it begins. -/
theorem MpAt.range (h : MpAt w b M) (ht : P.underlying t = some (.map k e)) :
    ∃ w', (Instr.range t (.map (some b))).run P w = .ok (.pointer (some ⟨w.heap.size, 0, none⟩)) w' ∧ Going w' b w.heap.size M M ∧ Below w.heap.size w w' ∧ w'.heap.size = w.heap.size + 1 := by
  have hlt := h.lt
  obtain ⟨es, clock, hb, hst, rfl⟩ := h
  refine ⟨_, run_range_map w t k e b es clock ht hb, ⟨es, clock, clock, #[], clock, ((MapKept.heap_alloc w _).2 b hlt).trans hb, hst, rfl, (MapKept.heap_alloc w _).1, hst.1, ?_, Nat.le_refl _, Nat.le_refl _⟩, (Below.refl _ _).alloc (Nat.le_refl _) _, by simp⟩
  unfold leftOf
  rw [Array.toList_filter, List.filter_eq_self.2 (by simp)]
theorem Going.lt (h : Going w b r M left) : b < w.heap.size ∧ r < w.heap.size := by
  obtain ⟨es, clock, since, seen, c0, hb, _, _, hr, _⟩ := h
  exact ⟨(Array.getElem?_eq_some_iff.1 hb).1, (Array.getElem?_eq_some_iff.1 hr).1⟩
theorem Going.keep {w' : World} (h : Going w b r M left) (h1 : w'.heap[b]? = w.heap[b]?) (h2 : w'.heap[r]? = w.heap[r]?) : Going w' b r M left := by
  obtain ⟨es, clock, since, seen, c0, hb, hst, hM, hr, rest⟩ := h
  exact ⟨es, clock, since, seen, c0, h1.trans hb, hst, hM, h2.trans hr, rest⟩
theorem Going.map (h : Going w b r M left) : MpAt w b M := by
  obtain ⟨es, clock, since, seen, c0, hb, hst, hM, _⟩ := h
  exact ⟨es, clock, hb, hst, hM⟩
theorem Going.ne (h : Going w b r M left) : r ≠ b := by
  obtain ⟨es, clock, since, seen, c0, hb, _, _, hr, _⟩ := h
  intro e
  rw [e, hb] at hr
  cases hr
theorem filter_one_born : ∀ (l A B : List MapEntry) (x : MapEntry), l = A ++ x :: B → (l.map (·.born)).Nodup → l.filter (fun y => !(y.born == x.born)) = A ++ B := by
  rintro l A B x rfl hn
  rw [List.map_append, List.map_cons, List.nodup_append] at hn
  obtain ⟨h1, h2, h3⟩ := hn
  rw [List.nodup_cons] at h2
  rw [List.filter_append, List.filter_cons_of_neg (by simp), List.filter_eq_self.2, List.filter_eq_self.2]
  · intro y hy
    have : y.born ≠ x.born := fun c => h2.1 (List.mem_map.2 ⟨y, hy, c⟩)
    simpa using this
  · intro y hy
    have : y.born ≠ x.born := fun c => h3 _ (List.mem_map.2 ⟨y, hy, rfl⟩) _ (List.mem_cons_self) c
    simpa using this
/-- The step. -/
theorem Going.next (h : Going w b r M left) (ty : TypeId) :
    (left = [] ∧ (Instr.next (.pointer (some ⟨r, 0, none⟩)) false ty).run P w = .ok (.tuple #[.bool false]) w) ∨
    ∃ A p B w', left = A ++ p :: B ∧ (Instr.next (.pointer (some ⟨r, 0, none⟩)) false ty).run P w = .ok (.tuple #[.bool true, p.1, p.2]) w' ∧ Going w' b r M (A ++ B) ∧
      w.grownBy w' (some r) ∧ w'.heap.size = w.heap.size ∧ (Instr.entry (.pointer (some ⟨r, 0, none⟩))).run P w' = .ok (.tuple #[p.1, p.2]) w' := by
  have hne := h.ne
  obtain ⟨es, clock, since, seen, c0, hb, hst, rfl, hr, hold, rfl, hsc, hsk⟩ := h
  rcases run_next_at (P := P) w ty r b since c0 seen es clock hr hb hold hsc with ⟨h0, hrun⟩ | ⟨x, hx, w1, hal, hrun⟩
  · refine Or.inl ⟨?_, hrun⟩
    have : (leftOf es seen).toList = [] := List.eq_nil_of_length_eq_zero (by simpa using h0)
    rw [this]; rfl
  · obtain ⟨hem, hes⟩ := mem_left hx
    have hr1 : w1.heap[r]? = some (.mapIter (some b) since seen c0) := by rcases hal with rfl | rfl <;> exact hr
    have hb1 : w1.heap[b]? = some (.map es clock) := by rcases hal with rfl | rfl <;> exact hb
    have hset := MapKept.heap_set (o' := .mapIter (some b) since (seen.push x.born) clock) hr1
    have hb' := (hset.2 b hne.symm).trans hb1
    obtain ⟨A, B, hAB⟩ := List.append_of_mem hx
    have hsub : ((leftOf es seen).toList.map (·.born)).Nodup := by
      have : (leftOf es seen).toList.Sublist es.toList := by unfold leftOf; rw [Array.toList_filter]; exact List.filter_sublist
      exact (this.map _).nodup hst.2.1
    have hleft : (leftOf es (seen.push x.born)).toList = A ++ B := by
      rw [← filter_one_born _ A B x hAB hsub]
      unfold leftOf
      rw [Array.toList_filter, Array.toList_filter, List.filter_filter]
      refine List.filter_congr fun y _ => ?_
      rw [contains_push]
      cases seen.contains y.born <;> cases (y.born == x.born) <;> rfl
    refine Or.inr ⟨A.map kv, kv x, B.map kv, _, by rw [hAB]; simp, hrun, ⟨es, clock, since, seen.push x.born, clock, hb', hst, rfl, hset.1, hold, by rw [hleft]; simp, hsk, hsk⟩, ?_, ?_,
      run_entry_at _ r b since seen es clock x hset.1 hb' hem hst.2.1⟩
    · rcases hal with rfl | rfl <;> exact ⟨rfl, rfl, rfl, by simp [setBlock], fun i _ hi => hset.2 i (fun e1 => hi (by rw [e1]))⟩
    · rcases hal with rfl | rfl <;> simp [setBlock]
end

/-! At the operation, for the walk. -/
section
variable {P : Program} {w : World} {ops : Array Oper} {rest : List Oper} {o : Oper} {a : Act} {Q : Exit → Act → World → Prop}
theorem wpList_mlook (hg : o.guard = none) (m x : Operand) (t : TypeId) (c : Bool) (hop : o.op = Op.lookup t m x c) {mv key v : Value} (hm : a.eval m = mv) (hx : a.eval x = key) (hrun : (Instr.lookup t mv key c).run P w = .ok v w)
    (hK : wpList P ops Q rest (a.put o.dst v) w) : wpList P ops Q (o :: rest) a w := by
  refine wpList_plain hg fun K' hK' => ?_
  unfold Oper.wp
  simp [execOp, hop, hm, hx, hrun, Result.andThen]
  exact hK' _ _ hK
theorem wpList_mput (hg : o.guard = none) (m x v : Operand) (t : TypeId) (hop : o.op = Op.mapUpdate t m x v) {mv key val : Value} {w' : World} (hm : a.eval m = mv) (hx : a.eval x = key) (hv : a.eval v = val) (hrun : (Instr.mapUpdate t mv key val).run P w = .ok () w')
    (hK : wpList P ops Q rest (a.put o.dst undef) w') : wpList P ops Q (o :: rest) a w := by
  refine wpList_plain hg fun K' hK' => ?_
  unfold Oper.wp
  simp [execOp, hop, hm, hx, hv, hrun, Result.andThen]
  exact hK' _ _ hK
theorem wpList_mdel (hg : o.guard = none) (m x : Operand) (t k : TypeId) (hop : o.op = Op.call { callee := Callee.builtin Builtin.delete, args := #[m, x], argTypes := #[t, k] }) {mv key : Value} {w' : World} (hm : a.eval m = mv) (hx : a.eval x = key)
    (hrun : (Builtin.delete_ #[t, k] o.type #[mv, key]).run P w = .ok (.tuple #[]) w') (hK : wpList P ops Q rest (a.put o.dst (.tuple #[])) w') : wpList P ops Q (o :: rest) a w := by
  refine wpList_plain hg fun K' hK' => ?_
  unfold Oper.wp
  simp [execOp, hop, resolve, invoke, builtin, hm, hx, hrun, Result.andThen]
  exact hK' _ _ hK
theorem wpList_mlen (hg : o.guard = none) (m : Operand) (t : TypeId) (hop : o.op = Op.call { callee := Callee.builtin Builtin.len, args := #[m], argTypes := #[t] }) {mv v : Value} (hm : a.eval m = mv) (hrun : (Builtin.len_ #[t] o.type #[mv]).run P w = .ok v w)
    (hK : wpList P ops Q rest (a.put o.dst v) w) : wpList P ops Q (o :: rest) a w := by
  refine wpList_plain hg fun K' hK' => ?_
  unfold Oper.wp
  simp [execOp, hop, resolve, invoke, builtin, hm, hrun, Result.andThen]
  exact hK' _ _ hK
theorem wpList_mrange (hg : o.guard = none) (m : Operand) (t : TypeId) (hop : o.op = Op.range t m) {mv v : Value} {w' : World} (hm : a.eval m = mv) (hrun : (Instr.range t mv).run P w = .ok v w')
    (hK : wpList P ops Q rest (a.put o.dst v) w') : wpList P ops Q (o :: rest) a w := by
  refine wpList_plain hg fun K' hK' => ?_
  unfold Oper.wp
  simp [execOp, hop, hm, hrun, Result.andThen]
  exact hK' _ _ hK
theorem wpList_mnext (hg : o.guard = none) (it : Operand) (hop : o.op = Op.next it false) {iv v : Value} {w' : World} (hit : a.eval it = iv) (hrun : (Instr.next iv false o.type).run P w = .ok v w')
    (hK : wpList P ops Q rest (a.put o.dst v) w') : wpList P ops Q (o :: rest) a w := by
  refine wpList_plain hg fun K' hK' => ?_
  unfold Oper.wp
  simp [execOp, hop, hit, hrun, Result.andThen]
  exact hK' _ _ hK
end
end Go.Proofs.YtoejpngdkcnnhaaGreat.I

namespace Go.Proofs.YtoejpngdkcnnhaaGreat.I
open Go.RowKit

/-- A slice that reads as these values. -/
def Rd (w : World) (a : Option Addr) (vs : List Value) : Prop :=
  ∀ (j : Nat) (v : Value), vs[j]? = some v → ∃ g off, a = some ⟨g, off, none⟩ ∧ g < w.heap.size ∧ w.cell? ⟨g, off + j, none⟩ = some v


theorem lt_of_heap {w : World} {b : Nat} {x : Obj} (h : w.heap[b]? = some x) : b < w.heap.size := by
  rcases Nat.lt_or_ge b w.heap.size with h' | h'
  · exact h'
  · rw [Array.getElem?_eq_none h'] at h; cases h
theorem cell_of {w : World} {b : Nat} {c : Array Value} {t : TypeId} {fr : Nat × Nat} (h : w.heap[b]? = some (.cells c t fr)) (k : Nat) : w.cell? ⟨b, k, none⟩ = c[k]? := by
  simp [World.cell?, h]

theorem Rd.keep {w w' : World} {a : Option Addr} {vs : List Value} (h : Rd w a vs) (hs : w.heap.size ≤ w'.heap.size) (hk : ∀ g, g < w.heap.size → w'.heap[g]? = w.heap[g]?) : Rd w' a vs := fun j v hj => by
  obtain ⟨g, off, h1, h2, h3⟩ := h j v hj
  exact ⟨g, off, h1, by omega, by rw [World.cell?_of_block (hk g h2)]; exact h3⟩
theorem Rd.below {w w' : World} {a : Option Addr} {vs : List Value} (h : Rd w a vs) (b : Below w.heap.size w w') : Rd w' a vs := h.keep b.size (fun g hg => b.block g hg)
theorem Rd.drewN {w : World} {a : Option Addr} {vs : List Value} (h : Rd w a vs) (n : Nat) : Rd (w.drewN n) a vs := h
theorem Rd.alloc {w : World} {a : Option Addr} {vs : List Value} (h : Rd w a vs) (o : Obj) : Rd (w.alloc o) a vs := h.keep (by simp) (fun g hg => Below.heap_alloc _ _ _ hg)
theorem Rd.take {w : World} {a : Option Addr} {vs : List Value} (h : Rd w a vs) (k : Nat) : Rd w a (vs.take k) := fun j v hj => by
  rw [List.getElem?_take] at hj
  split at hj
  · exact h j v hj
  · cases hj

/-- A block holds these cells. -/
def Bk (v : World) (b : Nat) (cs : Array Value) (t : TypeId) : Prop := v.heap[b]? = some (.cells cs t (0, 0))
theorem Bk.cell {v : World} {b : Nat} {cs : Array Value} {t : TypeId} (h : Bk v b cs t) (j : Nat) : v.cell? ⟨b, j, none⟩ = cs[j]? := cell_of h j
theorem Bk.free {v : World} {b : Nat} {cs : Array Value} {t : TypeId} (h : Bk v b cs t) (j : Nat) : v.frozen? ⟨b, j, none⟩ = false := by
  unfold Bk at h
  simp [World.frozen?, h]
theorem Bk.lt {v : World} {b : Nat} {cs : Array Value} {t : TypeId} (h : Bk v b cs t) : b < v.heap.size := lt_of_heap h
theorem Bk.below {v v' : World} {B b : Nat} {cs : Array Value} {t : TypeId} (h : Bk v b cs t) (hb : Below B v v') (hB : b < B) : Bk v' b cs t := by
  unfold Bk
  rw [hb.block b hB]
  exact h
theorem Bk.next {v v' : World} {b : Nat} {cs : Array Value} {t : TypeId} (h : Bk v b cs t) (hb : Below v.heap.size v v') : Bk v' b cs t := h.below hb h.lt
theorem Bk.new (w : World) (cs : Array Value) (t : TypeId) : Bk (w.alloc (.cells cs t)) w.heap.size cs t := heap_alloc_new w _
theorem Bk.alloc {v : World} {b : Nat} {cs : Array Value} {t : TypeId} (h : Bk v b cs t) (o : Obj) : Bk (v.alloc o) b cs t := h.next ((Below.refl _ _).alloc (Nat.le_refl _) o)
theorem Bk.drew {v : World} {b : Nat} {cs : Array Value} {t : TypeId} (h : Bk v b cs t) : Bk v.drew b cs t := h
theorem Bk.far {v : World} {b k j : Nat} {cs : Array Value} {t : TypeId} {x : Value} (h : Bk v b cs t) (hne : b ≠ k) : Bk (v.setCell ⟨k, j, none⟩ x) b cs t := by
  unfold Bk
  rw [Below.heap_setCell v ⟨k, j, none⟩ _ b hne]
  exact h
theorem Bk.kept {v v' : World} {b : Nat} {cs : Array Value} {t : TypeId} {r : Option Nat} (h : Bk v b cs t) (hg : v.grownBy v' r) (hne : r ≠ some b) : Bk v' b cs t := by
  unfold Bk
  rw [hg.block b h.lt (fun e => hne e.symm)]
  exact h
theorem Bk.set {v : World} {b : Nat} {cs : Array Value} {t : TypeId} (h : Bk v b cs t) (k : Nat) (x : Value) : Bk (v.setCell ⟨b, k, none⟩ x) b (cs.setIfInBounds k x) t := by
  unfold Bk at h ⊢
  simp [World.setCell, Array.getElem?_modify, h]

/-- Rows of the call's own, of elements of k cells. -/
def OwnK (e : TypeId) (k : Nat) (w : World) (B : Nat) (v : Value) (n : Nat) (cs : List Value) : Prop := w.ownsRow B e k v n cs
theorem OwnK.nil (w : World) (B : Nat) (e : TypeId) (k : Nat) : OwnK e k w B (.slice none 0 0) 0 [] := World.ownsRow_nil w B e k
theorem OwnK.below {e : TypeId} {k : Nat} {w w' : World} {B n : Nat} {v : Value} {cs : List Value} (h : OwnK e k w B v n cs) (hb : Below w.heap.size w w') : OwnK e k w' B v n cs := by
  refine ⟨h.1, ?_⟩
  rcases h.2 with hn | ⟨g, cap, cur, e, hg, hh, r⟩
  · exact Or.inl hn
  · exact Or.inr ⟨g, cap, cur, e, hg, by rw [hb.block g (lt_of_heap hh)]; exact hh, r⟩
theorem OwnK.far {e : TypeId} {k : Nat} {w : World} {B n b j : Nat} {v x : Value} {cs : List Value} (h : OwnK e k w B v n cs) (hb : b < B) : OwnK e k (w.setCell ⟨b, j, none⟩ x) B v n cs := by
  refine ⟨h.1, ?_⟩
  rcases h.2 with hn | ⟨g, cap, cur, e, hg, hh, r⟩
  · exact Or.inl hn
  · exact Or.inr ⟨g, cap, cur, e, hg, by rw [Below.heap_setCell w ⟨b, j, none⟩ _ g (by show g ≠ b; omega)]; exact hh, r⟩
theorem OwnK.mono {e : TypeId} {k : Nat} {w : World} {B B' n : Nat} {v : Value} {cs : List Value} (h : OwnK e k w B v n cs) (hb : B' ≤ B) : OwnK e k w B' v n cs := by
  refine ⟨h.1, ?_⟩
  rcases h.2 with hn | ⟨g, cap, cur, e, hg, r⟩
  · exact Or.inl hn
  · exact Or.inr ⟨g, cap, cur, e, Nat.le_trans hb hg, r⟩
theorem OwnK.rd {t : TypeId} {k : Nat} {w : World} {B n : Nat} {v : Value} {cs : List Value} (h : OwnK t k w B v n cs) (_hk : 0 < k) : ∃ a cap, v = .slice a n cap ∧ n ≤ cap ∧ cap ≤ maxLen ∧ Rd w a cs := by
  obtain ⟨h1, h2⟩ := h
  rcases h2 with ⟨rfl, h2⟩ | ⟨g, cap, cur, rfl, hg, hh, hc1, hc2, hc3, hc4⟩
  · refine ⟨none, 0, by rw [h2], by omega, by simp [maxLen], fun j v hj => ?_⟩
    rw [h2, Nat.zero_mul] at h1
    have : cs = [] := List.eq_nil_of_length_eq_zero h1
    subst this
    cases hj
  · refine ⟨_, _, rfl, hc1, hc2, fun j v hj => ⟨g, 0, rfl, lt_of_heap hh, ?_⟩⟩
    have hlt : j < n * k := by
      have := (List.getElem?_eq_some_iff.mp hj).1
      rw [← h1]; exact this
    rw [Nat.zero_add, cell_of hh]
    have : cur[j]? = (List.take (n * k) cur.toList)[j]? := by rw [List.getElem?_take_of_lt hlt]; simp
    rw [this, hc4]
    exact hj
/-- Its block: of the call's own, and of its elements' type. -/
theorem OwnK.lt {t : TypeId} {k : Nat} {w : World} {B n : Nat} {v : Value} {cs : List Value} (h : OwnK t k w B v n cs) {q : Nat} (hq : v.ownBlock = some q) : B ≤ q ∧ q < w.heap.size := World.ownsRow.lt h q hq
theorem OwnK.ne {e t : TypeId} {k : Nat} {w : World} {B n b : Nat} {v : Value} {l : List Value} {cs : Array Value} (h : OwnK e k w B v n l) (hg : Bk w b cs t) (hne : e ≠ t) : v.ownBlock ≠ some b := by
  rcases h.2 with ⟨rfl, _⟩ | ⟨g', cap, cur, rfl, _, hh, _⟩
  · simp [Value.ownBlock]
  · intro he
    have : g' = b := by simpa [Value.ownBlock] using he
    subst this
    unfold Bk at hg
    rw [hg] at hh
    injection hh with hh
    injection hh with _ ht
    exact hne ht.symm

/-- At a step of a region that draws: one element more. -/
theorem step_app_k {P : Program} {ops : Array Oper} {o : Oper} {a : Act} {K : Act → World → Prop} {Q : Exit → Act → World → Prop} {E : Prop} (hgd : o.guard = none) (s x : Operand) (t e : TypeId) (i : TypeInfo) (z : Value) (k bytes : Nat)
    (ho : o.op = .call { callee := .builtin .append, args := #[s, x], argTypes := #[t, t] })
    (ht : P.underlying t = some (.slice e)) (hi : P.info? e = some i) (hz : i.zero = some z) (h1 : i.size = k) (hby : i.bytes = bytes) (hzs : z.cells.size = k) (hk0 : 0 < k) (hb8 : bytes ≤ 64)
    (B : Nat) (w : World) (v : Value) (n : Nat) (cs news : List Value) (g : Nat) (hs : a.eval s = v) (hown : OwnK e k w B v n cs) (hx : a.eval x = .slice (some ⟨g, 0, none⟩) 1 1)
    (hl : news.length = k) (hn : ∀ j u, news[j]? = some u → w.cell? ⟨g, j, none⟩ = some u) (hone : ∀ u ∈ news, u.oneCell' = true) (hlen : n ≤ 1000000) (hbase : B ≤ w.heap.size)
    (h : ∀ v' w', OwnK e k w' B v' (n + 1) (cs ++ news) → w.grownBy w' v.ownBlock → K (a.put o.dst v') w') :
    if Region.wanted o (yielded ops a.tmps) = true then Oper.wp P o a w K Q else E := by
  have hw : Region.wanted o (yielded ops a.tmps) = true := by simp [Region.wanted, hgd]
  rw [if_pos hw]
  obtain ⟨v', w', hrun, h2, h3, _, _⟩ := run_append_own_at (P := P) w B t o.type e i z k bytes ht hi hz h1 hby hzs hk0 v n cs hown ⟨g, 0, none⟩ 1 1 news (by rw [hl, Nat.one_mul])
    (fun j u hj => by rw [WideShapes.add_plain, Nat.zero_add]; exact hn j u hj) hone (by unfold maxLen; omega) (by have : (n + 1) * bytes ≤ (n + 1) * 64 := Nat.mul_le_mul_left _ hb8; omega) hbase
  unfold Oper.wp
  simp [execOp, ho, resolve, invoke, builtin, hs, hx, hrun, Result.andThen]
  exact h v' w' h2 h3
def Own (e : TypeId) (w : World) (B : Nat) (v : Value) (l : List Value) : Prop := w.ownsRow B e 1 v l.length l
theorem Own.rd {t : TypeId} {w : World} {B : Nat} {v : Value} {l : List Value} (h : Own t w B v l) : ∃ a cap, v = .slice a l.length cap ∧ l.length ≤ cap ∧ cap ≤ maxLen ∧ Rd w a l := OwnK.rd (k := 1) h (by decide)
theorem Own.snoc {t : TypeId} {w : World} {B : Nat} {v x : Value} {l : List Value} (h : w.ownsRow B t 1 v (l.length + 1) (l ++ [x])) : Own t w B v (l ++ [x]) := by
  unfold Own
  simpa using h
theorem Own.nil (w : World) (B : Nat) (e : TypeId) : Own e w B (.slice none 0 0) [] := World.ownsRow_nil w B e 1
theorem Own.mono {e : TypeId} {w : World} {B B' : Nat} {v : Value} {l : List Value} (h : Own e w B v l) (hb : B' ≤ B) : Own e w B' v l := by
  refine ⟨h.1, ?_⟩
  rcases h.2 with hn | ⟨g, cap, cur, e, hg, r⟩
  · exact Or.inl hn
  · exact Or.inr ⟨g, cap, cur, e, Nat.le_trans hb hg, r⟩
theorem Own.below {e : TypeId} {w w' : World} {B : Nat} {v : Value} {l : List Value} (h : Own e w B v l) (hb : Below w.heap.size w w') : Own e w' B v l := by
  refine ⟨h.1, ?_⟩
  rcases h.2 with hn | ⟨g, cap, cur, e, hg, hh, r⟩
  · exact Or.inl hn
  · exact Or.inr ⟨g, cap, cur, e, hg, by rw [hb.block g (lt_of_heap hh)]; exact hh, r⟩
/-- Written out. -/
theorem Own.lit {e : TypeId} {w : World} {B : Nat} (xs : Array Value) (hb : B ≤ w.heap.size) (hn : xs.size ≤ 1000) : Own e (w.alloc (.cells xs e)) B (.slice (some ⟨w.heap.size, 0, none⟩) xs.size xs.size) xs.toList := by
  have h := World.ownsRow_lit (e := e) (size := 1) (base := B) w xs xs.size hb (by unfold maxLen; omega) (by simp)
  unfold Own
  simpa using h
theorem own_ne {w : World} {B : Nat} {e t : TypeId} {v : Value} {l : List Value} {g : Nat} {C : Array Value} {fr : Nat × Nat} (h : Own e w B v l) (hg : w.heap[g]? = some (.cells C t fr)) (hne : e ≠ t) : v.ownBlock ≠ some g := by
  rcases h.2 with ⟨rfl, _⟩ | ⟨g', cap, cur, rfl, _, hh, _⟩
  · simp [Value.ownBlock]
  · intro he
    have : g' = g := by simpa [Value.ownBlock] using he
    subst this
    rw [hg] at hh
    injection hh with hh
    injection hh with _ ht
    exact hne ht.symm
theorem own_two {w : World} {B : Nat} {e t : TypeId} {v u : Value} {l k : List Value} (h : Own e w B v l) (h' : Own t w B u k) (hne : t ≠ e) : u.ownBlock = none ∨ u.ownBlock ≠ v.ownBlock := by
  rcases h'.2 with ⟨rfl, _⟩ | ⟨g', cap, cur, rfl, _, hh, _⟩
  · exact Or.inl rfl
  · refine Or.inr fun c => own_ne h hh (fun x => hne x.symm) ?_
    rw [← c]; rfl

/-- What an append of the call's own leaves as it was. -/
def Kept (e : TypeId) (B : Nat) (w w' : World) : Prop :=
  w.heap.size ≤ w'.heap.size ∧ (∀ A, Below B A w → Below B A w') ∧
  (∀ (t : TypeId) (v : Value) (l : List Value), t ≠ e → Own t w B v l → Own t w' B v l) ∧
  (∀ (g : Nat) (C : Array Value) (t : TypeId) (fr : Nat × Nat), t ≠ e → w.heap[g]? = some (Obj.cells C t fr) → w'.heap[g]? = some (Obj.cells C t fr))

theorem wpList_app_one {P : Program} {ops : Array Oper} {rest : List Oper} {o : Oper} {a : Act} {Q : Exit → Act → World → Prop} (hgd : o.guard = none) (s x : Operand) (t e : TypeId) (i : TypeInfo) (z : Value) (bytes : Nat)
    (ho : o.op = .call { callee := .builtin .append, args := #[s, x], argTypes := #[t, t] })
    (ht : P.underlying t = some (.slice e)) (hi : P.info? e = some i) (hz : i.zero = some z) (h1 : i.size = 1) (hby : i.bytes = bytes) (hzs : z.cells.size = 1) (hb8 : bytes ≤ 64)
    (B : Nat) (w : World) (v : Value) (L : List Value) (u : Value) (hs : a.eval s = v) (hown : Own e w B v L) (hx : a.eval x = .slice (some ⟨w.heap.size, 0, none⟩) 1 1) (hu : u.oneCell' = true)
    (hlen : L.length ≤ 1000000) (hbase : B ≤ w.heap.size)
    (h : ∀ v' w', Own e w' B v' (L ++ [u]) → Kept e B w w' → wpList P ops Q rest (a.put o.dst v') w') :
    wpList P ops Q (o :: rest) a (w.alloc (.cells #[u] e)) := by
  refine wpList_append_own _ hgd s x t ho B e i z 1 bytes ht hi hz h1 hby hzs (by decide) v L.length L hs (World.ownsRow.alloc hown _) ⟨w.heap.size, 0, none⟩ 1 1 [u] hx rfl ?_ ?_ ?_ ?_ ?_ ?_
  · intro j y hj
    match j, hj with
    | 0, hj => simp at hj; subst hj; exact (World.cell?_alloc_at _ _ _ _ rfl).trans rfl
  · intro y hy; simp at hy; subst hy; exact hu
  · unfold maxLen; omega
  · have : (L.length + 1) * bytes ≤ (L.length + 1) * 64 := Nat.mul_le_mul_left _ hb8
    omega
  · simp; omega
  · intro v' w' hown' hgrow _
    have hsz : (w.alloc (.cells #[u] e)).heap.size ≤ w'.heap.size := (hgrow.size : _)
    simp at hsz
    refine h v' w' (Own.snoc hown') ⟨by omega, fun A hA => ?_, fun t' v2 l2 hne h2 => ?_, fun g C t' fr hne hg => ?_⟩
    · exact Below.grown (hA.alloc hbase _) hgrow (by simp; omega) (fun q hq => (World.ownsRow.lt hown q hq).1)
    · exact World.ownsRow.kept (World.ownsRow.alloc h2 _) hgrow (own_two hown h2 hne)
    · rw [hgrow.block g (by have := lt_of_heap hg; simp; omega) (fun c => own_ne hown hg (fun x => hne x.symm) c.symm), Below.heap_alloc _ _ _ (lt_of_heap hg)]
      exact hg
theorem own_next {e : TypeId} {w w' : World} {B : Nat} {v : Value} {l : List Value} (h : Own e w B v l) (hb : Below w.heap.size w w') : Own e w' B v l := OwnK.below (k := 1) h hb

/-- Of the elder blocks only this one may have turned. -/
def Gb (b : Nat) (w w' : World) : Prop := w.grownBy w' (some b)
theorem Gb.out {b : Nat} {w w' : World} (h : Gb b w w') : w.grownBy w' (some b) := h
theorem Gb.refl (b : Nat) (w : World) : Gb b w w := ⟨rfl, rfl, rfl, Nat.le_refl _, fun _ _ _ => rfl⟩
theorem Gb.size {b : Nat} {w w' : World} (h : Gb b w w') : w.heap.size ≤ w'.heap.size := h.out.size
theorem Gb.trans {b : Nat} {w v u : World} (h : Gb b w v) (k : Gb b v u) : Gb b w u :=
  ⟨k.out.os.trans h.out.os, k.out.tape.trans h.out.tape, k.out.output.trans h.out.output, Nat.le_trans h.size k.size, fun i hi hne => (k.out.block i (Nat.lt_of_lt_of_le hi h.size) hne).trans (h.out.block i hi hne)⟩
theorem Gb.of {b : Nat} {w v : World} (k : Below w.heap.size w v) : Gb b w v := ⟨k.os, k.tape, k.output, k.size, fun i hi _ => k.block i hi⟩
theorem Gb.below {b : Nat} {w v u : World} (h : Gb b w v) (k : Below v.heap.size v u) : Gb b w u := h.trans (Gb.of k)
theorem Gb.alloc {b : Nat} {w v : World} (h : Gb b w v) (o : Obj) : Gb b w (v.alloc o) := h.below ((Below.refl _ _).alloc (Nat.le_refl _) o)
theorem Gb.drew {b : Nat} {w v : World} (h : Gb b w v) : Gb b w v.drew := h.below (Below.refl _ _).drew
theorem Gb.set {b j : Nat} {w v : World} (h : Gb b w v) (x : Value) : Gb b w (v.setCell ⟨b, j, none⟩ x) :=
  h.trans ⟨rfl, rfl, rfl, by simp, fun k _ hne => Below.heap_setCell v ⟨b, j, none⟩ x k fun e => hne (by rw [e])⟩
theorem Gb.setNew {b c j : Nat} {w v : World} (h : Gb b w v) (hc : w.heap.size ≤ c) (x : Value) : Gb b w (v.setCell ⟨c, j, none⟩ x) :=
  ⟨h.out.os, h.out.tape, h.out.output, by simpa using h.size, fun k hk hne => (Below.heap_setCell v ⟨c, j, none⟩ x k (by show k ≠ c; omega)).trans (h.out.block k hk hne)⟩
theorem below_gb {B b : Nat} {a w w' : World} (h : Below B a w) (hg : Gb b w w') (hb : B ≤ b) (hB : B ≤ w.heap.size) : Below B a w' :=
  h.grown hg.out hB fun k e => by
    injection e with e
    omega
theorem Bk.gb {v v' : World} {b k : Nat} {cs : Array Value} {t : TypeId} (h : Bk v b cs t) (hg : Gb k v v') (hne : ¬ b = k) : Bk v' b cs t := h.kept hg.out fun e => hne (Option.some.inj e).symm
theorem OwnK.gb {e : TypeId} {k : Nat} {w w' : World} {B n b : Nat} {v : Value} {cs : List Value} (h : OwnK e k w B v n cs) (hg : Gb b w w') (hne : v.ownBlock ≠ some b) : OwnK e k w' B v n cs := World.ownsRow.kept h hg.out (Or.inr hne)

theorem Bk.drewN {w : World} {b : Nat} {cs : Array Value} {t : TypeId} (h : Bk w b cs t) (n : Nat) : Bk (w.drewN n) b cs t := by
  unfold Bk
  rw [World.heap_drewN]
  exact h
theorem Gb.drewN {b : Nat} {w v : World} (h : Gb b w v) (n : Nat) : Gb b w (v.drewN n) := h.below ⟨rfl, rfl, rfl, Nat.le_refl _, fun _ _ => rfl⟩

theorem dn {B : Nat} {a w : World} (h : Below B a w) (n : Nat) : Below B a (w.drewN n) := h.trans ⟨rfl, rfl, rfl, Nat.le_refl _, fun _ _ => rfl⟩
end Go.Proofs.YtoejpngdkcnnhaaGreat.I

namespace Go.Proofs.YtoejpngdkcnnhaaGreat.I
open Go.RowKit

/-- Beside the blocks of F all that was there is as it was; what is of F' is of F, or new. -/
structure Gr (F : Nat → Prop) (w w' : World) (F' : Nat → Prop) : Prop where
  os : w'.os = w.os
  tape : w'.tape = w.tape
  output : w'.output = w.output
  size : w.heap.size ≤ w'.heap.size
  block : ∀ k, k < w.heap.size → ¬ F k → w'.heap[k]? = w.heap[k]?
  news : ∀ k, F' k → F k ∨ w.heap.size ≤ k
theorem Gr.refl (F : Nat → Prop) (w : World) : Gr F w w F := ⟨rfl, rfl, rfl, Nat.le_refl _, fun _ _ _ => rfl, fun _ h => Or.inl h⟩
theorem Gr.trans {F G H : Nat → Prop} {x y z : World} (h : Gr F x y G) (k : Gr G y z H) : Gr F x z H :=
  ⟨k.os.trans h.os, k.tape.trans h.tape, k.output.trans h.output, Nat.le_trans h.size k.size, fun i hi hF => by
    rw [k.block i (Nat.lt_of_lt_of_le hi h.size) (fun hg => (h.news i hg).elim hF fun e => by omega), h.block i hi hF], fun i hi => by
    rcases k.news i hi with hg | hg
    · exact h.news i hg
    · exact Or.inr (Nat.le_trans h.size hg)⟩
theorem Gr.of {F : Nat → Prop} {x y : World} (h : Below x.heap.size x y) : Gr F x y F := ⟨h.os, h.tape, h.output, h.size, fun k hk _ => h.block k hk, fun _ h => Or.inl h⟩
theorem Gr.below {F G : Nat → Prop} {x y z : World} (h : Gr F x y G) (k : Below y.heap.size y z) : Gr F x z G := h.trans (Gr.of k)
theorem Gr.after {F G : Nat → Prop} {x y z : World} (h : Below x.heap.size x y) (k : Gr F y z G) : Gr F x z G := (Gr.of h).trans k
theorem Gr.setNew {F G : Nat → Prop} {x y : World} {k j : Nat} {v : Value} (h : Gr F x y G) (hk : x.heap.size ≤ k) : Gr F x (y.setCell ⟨k, j, none⟩ v) G :=
  ⟨h.os, h.tape, h.output, by simpa using h.size, fun i hi hF => (Below.heap_setCell y ⟨k, j, none⟩ v i (by show i ≠ k; omega)).trans (h.block i hi hF), h.news⟩
/-- Where all of F is new, nothing of what was there turns. -/
theorem Gr.under {F G : Nat → Prop} {u x y : World} {B : Nat} (k : Gr F x y G) (h : Below B u x) (hF : ∀ g, F g → B ≤ g) (hB : B ≤ x.heap.size) : Below B u y :=
  ⟨k.os.trans h.os, k.tape.trans h.tape, k.output.trans h.output, Nat.le_trans h.size k.size, fun i hi => (k.block i (by omega) (fun hf => by have := hF i hf; omega)).trans (h.block i hi)⟩
theorem Gr.up {F G : Nat → Prop} {x y : World} {B : Nat} (k : Gr F x y G) (hF : ∀ g, F g → B ≤ g) (hB : B ≤ x.heap.size) : ∀ g, G g → B ≤ g := fun g hg => by
  rcases k.news g hg with h | h
  · exact hF g h
  · omega
/-- A block that is none of F's stays none of its. -/
theorem Gr.off {F G : Nat → Prop} {x y : World} (k : Gr F x y G) {g : Nat} (hg : ¬ F g) (hlt : g < x.heap.size) : ¬ G g := fun h => by
  rcases k.news g h with h | h
  · exact hg h
  · omega
theorem Bk.gr {F G : Nat → Prop} {x y : World} {b : Nat} {cs : Array Value} {t : TypeId} (h : Bk x b cs t) (k : Gr F x y G) (hb : ¬ F b) : Bk y b cs t := by
  unfold Bk
  rw [k.block b h.lt hb]
  exact h
/-- A row none of whose block is F's. -/
def Off (F : Nat → Prop) (a : Option Addr) : Prop := ∀ x, a = some x → ¬ F x.block
theorem Rd.gr {F G : Nat → Prop} {x y : World} {a : Option Addr} {vs : List Value} (h : Rd x a vs) (k : Gr F x y G) (ho : Off F a) : Rd y a vs := fun j v hj => by
  obtain ⟨g, off, e, hg, hc⟩ := h j v hj
  exact ⟨g, off, e, Nat.lt_of_lt_of_le hg k.size, by rw [World.cell?_of_block (k.block g hg (ho _ e))]; exact hc⟩
theorem OwnK.gr {F G : Nat → Prop} {e : TypeId} {k : Nat} {x y : World} {B n : Nat} {v : Value} {cs : List Value} (h : OwnK e k x B v n cs) (hg : Gr F x y G) (ho : ∀ q, v.ownBlock = some q → ¬ F q) : OwnK e k y B v n cs := by
  refine ⟨h.1, ?_⟩
  rcases h.2 with hn | ⟨g, cap, cur, e1, hB, hh, r⟩
  · exact Or.inl hn
  · refine Or.inr ⟨g, cap, cur, e1, hB, ?_, r⟩
    rw [hg.block g (lt_of_heap hh) (ho g (by rw [e1]; rfl))]
    exact hh
/-- append of one element of k cells, written out in a new block: and where the row lies behind it. -/
theorem wpList_app_at {P : Program} {ops : Array Oper} {rest : List Oper} {o : Oper} {a : Act} {Q : Exit → Act → World → Prop} (hgd : o.guard = none) (s x : Operand) (t e : TypeId) (i : TypeInfo) (z : Value) (k bytes : Nat)
    (ho : o.op = .call { callee := .builtin .append, args := #[s, x], argTypes := #[t, t] })
    (ht : P.underlying t = some (.slice e)) (hi : P.info? e = some i) (hz : i.zero = some z) (h1 : i.size = k) (hby : i.bytes = bytes) (hzs : z.cells.size = k) (hk0 : 0 < k) (hb8 : bytes ≤ 64)
    (B : Nat) (w : World) (v : Value) (n : Nat) (L news : List Value) (hs : a.eval s = v) (hown : OwnK e k w B v n L) (hx : a.eval x = .slice (some ⟨w.heap.size, 0, none⟩) 1 1)
    (hl : news.length = k) (hone : ∀ u ∈ news, u.oneCell' = true) (hlen : n ≤ 1000000) (hbase : B ≤ w.heap.size)
    (h : ∀ v' w', OwnK e k w' B v' (n + 1) (L ++ news) → (w.alloc (.cells news.toArray e)).grownBy w' v.ownBlock → (v'.ownBlock = v.ownBlock ∨ v'.ownBlock = some (w.alloc (.cells news.toArray e)).heap.size) → wpList P ops Q rest (a.put o.dst v') w') :
    wpList P ops Q (o :: rest) a (w.alloc (.cells news.toArray e)) := by
  refine wpList_plain hgd fun K hK => ?_
  obtain ⟨v', w', hrun, h2, h3, _, h5⟩ := run_append_own_at (P := P) (w.alloc (.cells news.toArray e)) B t o.type e i z k bytes ht hi hz h1 hby hzs hk0 v n L (World.ownsRow.alloc hown _) ⟨w.heap.size, 0, none⟩ 1 1 news (by rw [hl, Nat.one_mul])
    (fun j u hj => by rw [WideShapes.add_plain, Nat.zero_add, cell_of (heap_alloc_new w (.cells news.toArray e)) j]; simpa using hj) hone (by unfold maxLen; omega) (by have : (n + 1) * bytes ≤ (n + 1) * 64 := Nat.mul_le_mul_left _ hb8; omega) (by simp; omega)
  unfold Oper.wp
  simp [execOp, ho, resolve, invoke, builtin, hs, hx, hrun, Result.andThen]
  exact hK _ _ (h v' w' h2 h3 h5)
/-- What holds of a row beside a footprint: it is none of its. -/
theorem own_off {w : World} {v v' : Value} {F : Nat → Prop} {M : Nat} (hF : ∀ g, F g → g < M) (ho : ∀ q, v.ownBlock = some q → ¬ F q) (h : v'.ownBlock = v.ownBlock ∨ v'.ownBlock = some w.heap.size) (hM : M ≤ w.heap.size) : ∀ q, v'.ownBlock = some q → ¬ F q := fun q hq hf => by
  rcases h with h | h
  · exact ho q (by rw [← h]; exact hq) hf
  · rw [hq] at h
    injection h with h
    have := hF q hf
    omega
end Go.Proofs.YtoejpngdkcnnhaaGreat.I

namespace Go.Proofs.YtoejpngdkcnnhaaGreat.I.RP
open Go.RowKit

theorem ret_int {k : IntKind} {a b : Int} (h : a = b) : Ending.returned (.int k a) = .returned (.int k b) := by rw [h]

theorem len_any (b : Nat) (i o : Int) (w : World)
    (h2 : w.cell? ⟨b, 2, none⟩ = some (.int .u32 i)) (h3 : w.cell? ⟨b, 3, none⟩ = some (.int .u32 o)) :
    Calls Tryz.prog 77 #[.pointer (some ⟨b, 0, none⟩)] w fun e w' => e = .returned (.int .i64 ((i - o) % 4294967296)) ∧ ∃ n, w' = w.drewN n := by
  go_enter Tryz.func77, Tryz.ntmps77
  go_wp2
  go_quiet (fail)
  go_wp2
  go_ret
  exact ⟨rfl, _, rfl⟩

theorem limit_any (b : Nat) (r : Int) (w : World)
    (h0 : w.cell? ⟨b, 0, none⟩ = some (.int .i64 r)) :
    Calls Tryz.prog 78 #[.pointer (some ⟨b, 0, none⟩)] w fun e w' => e = .returned (.int .i64 (min (max r 1) 4096)) ∧ w = w' := by
  go_enter Tryz.func78, Tryz.ntmps78
  go_wp2
  all_goals go_ret
  all_goals exact ⟨ret_int (by omega), rfl⟩

theorem and_mod (c : Int) (m : Nat) (h0 : 0 ≤ c) (h1 : c < 4294967296) (k : Nat) (hk : m = 2 ^ k) (hm2 : m ≤ 4096) :
    bits .and .u32 c (IntKind.u32.wrap (IntKind.i64.wrap ((m : Int) - 1))) = (((c % m).toNat : Nat) : Int) := by
  have hm : 0 < m := by rw [hk]; exact Nat.two_pow_pos k
  have e1 : IntKind.u32.wrap (IntKind.i64.wrap ((m : Int) - 1)) = ((m - 1 : Nat) : Int) := by
    simp only [IntKind.wrap, IntKind.bits, IntKind.signed]; simp; split <;> omega
  obtain ⟨c', rfl⟩ := Int.eq_ofNat_of_zero_le h0
  rw [e1]
  have e2 := u32_and_nat c' (m - 1) (by omega) (by omega)
  rw [e2, hk, Nat.and_two_pow_sub_one_eq_mod, ← hk]
  congr 1

theorem place_any (b pb m k : Nat) (c : Int) (w : World) (h0c : 0 ≤ c) (h1c : c < 4294967296) (hk : m = 2 ^ k) (hm2 : m ≤ 4096)
    (h1 : w.cell? ⟨b, 1, none⟩ = some (.slice (some ⟨pb, 0, none⟩) m m)) :
    Calls Tryz.prog 98 #[.pointer (some ⟨b, 0, none⟩), .int .u32 c] w fun e w' => e = .returned (.pointer (some ⟨pb, (c % m).toNat * 4, none⟩)) ∧ ∃ n, w' = w.drewN n := by
  have hm : 0 < m := by rw [hk]; exact Nat.two_pow_pos k
  have hb := and_mod c m h0c h1c k hk hm2
  have hq : (((c % m).toNat : Nat) : Int) < m := by have := Int.emod_lt_of_pos c (b := (m : Int)) (by omega); omega
  clear hk
  generalize (c % m).toNat = q at *
  go_enter Tryz.func98, Tryz.ntmps98
  go_wp2
  go_quiet (fail)
  go_wp2
  go_ret
  exact ⟨rfl, _, rfl⟩

theorem room_any (b : Nat) (r i o : Int) (l : Bool) (w : World)
    (h0 : w.cell? ⟨b, 0, none⟩ = some (.int .i64 r))
    (h2 : w.cell? ⟨b, 2, none⟩ = some (.int .u32 i)) (h3 : w.cell? ⟨b, 3, none⟩ = some (.int .u32 o)) (h4 : w.cell? ⟨b, 4, none⟩ = some (.bool l)) :
    Calls Tryz.prog 62 #[.pointer (some ⟨b, 0, none⟩)] w fun e w' => e = .returned (.int .i64 (min (max r 1) 4096 - ((i - o) % 4294967296 + if l then 1 else 0))) ∧ ∃ n, w' = w.drewN n := by
  have hb : 0 ≤ (i - o) % 4294967296 ∧ (i - o) % 4294967296 < 4294967296 := by omega
  obtain ⟨hb1, hb2⟩ := hb
  have hl1 : 1 ≤ min (max r 1) 4096 := by omega
  have hl2 : min (max r 1) 4096 ≤ 4096 := by omega
  have L := len_any b i o w h2 h3
  have K := fun n => limit_any b r (w.drewN n) (by simpa using h0)
  generalize (i - o) % 4294967296 = d at *
  generalize min (max r 1) 4096 = t at *
  go_enter Tryz.func62, Tryz.ntmps62
  cases l
  all_goals
    go_wp2_with (first
      | (go_at_call 77; refine L.mono ?_; rintro e w' ⟨rfl, n, rfl⟩)
      | (go_at_call 78; refine (K _).mono ?_; rintro e w' ⟨rfl, rfl⟩))
    go_ret
    refine ⟨ret_int (by simp), _, rfl⟩

end Go.Proofs.YtoejpngdkcnnhaaGreat.I.RP

namespace Go.Proofs.YtoejpngdkcnnhaaGreat.I.RP
open Go.RowKit

/-- All blocks but b and pb are as they were; new ones may be there. -/
structure Fr (b pb : Nat) (w w' : World) : Prop where
  os : w'.os = w.os
  tape : w'.tape = w.tape
  output : w'.output = w.output
  size : w.heap.size ≤ w'.heap.size
  block : ∀ k, k < w.heap.size → k ≠ b → k ≠ pb → w'.heap[k]? = w.heap[k]?

theorem Fr.refl (b pb : Nat) (w : World) : Fr b pb w w := ⟨rfl, rfl, rfl, Nat.le_refl _, fun _ _ _ _ => rfl⟩

theorem Fr.trans {b pb pb' : Nat} {x y z : World} (h : Fr b pb x y) (k : Fr b pb' y z) (e : pb' = pb ∨ x.heap.size ≤ pb') : Fr b pb x z :=
  ⟨k.os.trans h.os, k.tape.trans h.tape, k.output.trans h.output, Nat.le_trans h.size k.size, fun i hi h1 h2 => by
    have := h.size
    rw [k.block i (by omega) h1 (by omega), h.block i hi h1 h2]⟩

theorem Fr.drewN {b pb : Nat} {x y : World} (h : Fr b pb x y) (n : Nat) : Fr b pb x (y.drewN n) := ⟨h.os, h.tape, h.output, h.size, h.block⟩

theorem Fr.ofBelow {b pb B : Nat} {x y : World} (h : Below B x y) (hB : x.heap.size ≤ B) : Fr b pb x y :=
  ⟨h.os, h.tape, h.output, h.size, fun k hk _ _ => h.block k (by omega)⟩

theorem Fr.setCell {b pb : Nat} {x y : World} (h : Fr b pb x y) {a : Addr} (ha : a.block = b ∨ a.block = pb ∨ x.heap.size ≤ a.block) (v : Value) : Fr b pb x (y.setCell a v) :=
  ⟨h.os, h.tape, h.output, by simpa using h.size, fun k hk h1 h2 => by rw [Below.heap_setCell _ _ _ _ (by omega)]; exact h.block k hk h1 h2⟩

theorem Fr.set0 {b pb : Nat} {x y : World} (h : Fr b pb x y) (k : Nat) (v : Value) : Fr b pb x (y.setCell ⟨b, k, none⟩ v) := h.setCell (Or.inl rfl) v
theorem Fr.set1 {b pb : Nat} {x y : World} (h : Fr b pb x y) (k : Nat) (v : Value) : Fr b pb x (y.setCell ⟨pb, k, none⟩ v) := h.setCell (Or.inr (Or.inl rfl)) v

theorem Fr.alloc {b pb : Nat} {x y : World} (h : Fr b pb x y) (o : Obj) : Fr b pb x (y.alloc o) :=
  ⟨h.os, h.tape, h.output, by have := h.size; simp; omega, fun k hk h1 h2 => by have := h.size; rw [Below.heap_alloc _ _ _ (by omega)]; exact h.block k hk h1 h2⟩

theorem Fr.below {b pb B : Nat} {x y : World} (h : Fr b pb x y) (h1 : B ≤ b) (h2 : B ≤ pb) (h3 : B ≤ x.heap.size) : Below B x y :=
  ⟨h.os, h.tape, h.output, h.size, fun k hk => h.block k (by omega) (by omega) (by omega)⟩

def zc : Pk := ⟨0, 0, 0, ⟨#[]⟩⟩
theorem cc_len (l : List Pk) : (l.flatMap pk4).length = l.length * 4 := by
  induction l with
  | nil => rfl
  | cons x l ih => simp [ih]; omega
theorem cc_at : ∀ (l : List Pk) (q : Nat) (x : Pk), l[q]? = some x → (l.flatMap pk4)[q * 4]? = some (.int .i64 x.s) ∧ (l.flatMap pk4)[q * 4 + 1]? = some (.int .i64 x.d) ∧ (l.flatMap pk4)[q * 4 + 2]? = some (.int .i64 x.q) ∧ (l.flatMap pk4)[q * 4 + 3]? = some (.string x.x)
  | [], q, x, h => by simp at h
  | y :: l, 0, x, h => by
    simp at h
    subst h
    simp
  | y :: l, q + 1, x, h => by
    have := cc_at l q x (by simpa using h)
    rw [show (q + 1) * 4 = q * 4 + 1 + 1 + 1 + 1 by omega, show q * 4 + 1 + 1 + 1 + 1 + 1 = (q * 4 + 1) + 1 + 1 + 1 + 1 by omega, show q * 4 + 1 + 1 + 1 + 1 + 2 = (q * 4 + 2) + 1 + 1 + 1 + 1 by omega, show q * 4 + 1 + 1 + 1 + 1 + 3 = (q * 4 + 3) + 1 + 1 + 1 + 1 by omega]
    simpa using this
theorem cc_set : ∀ (l : List Pk) (q : Nat) (x : Pk), ((((l.flatMap pk4).set (q * 4) (.int .i64 x.s)).set (q * 4 + 1) (.int .i64 x.d)).set (q * 4 + 2) (.int .i64 x.q)).set (q * 4 + 3) (.string x.x) = (l.set q x).flatMap pk4
  | [], q, x => by simp
  | y :: l, 0, x => by simp
  | y :: l, q + 1, x => by
    have := cc_set l q x
    rw [show (q + 1) * 4 = q * 4 + 1 + 1 + 1 + 1 by omega]
    simp at this ⊢
    exact this
/-- A ring's state. -/
structure RingSt where
  room : Int
  i : Nat
  o : Nat
  laid : Bool
  lv : Pk
  xs : List Pk

def one (b : Bool) : Nat := if b then 1 else 0

structure RingOk (s : RingSt) : Prop where
  hi : s.i < 4294967296
  ho : s.o < 4294967296
  hlen : (s.o + s.xs.length) % 4294967296 = s.i
  hcap : ((s.xs.length + one s.laid : Nat) : Int) ≤ min (max s.room 1) 4096

def Filled (w : World) (b pb m : Nat) (s : RingSt) (ps : List Pk) : Prop :=
  (∃ k, m = 2 ^ k) ∧ m ≤ 4096 ∧ pb ≠ b ∧ w.heap[pb]? = some (.cells ⟨ps.flatMap pk4⟩ 61 (0, 0)) ∧ ps.length = m ∧ s.xs.length + one s.laid ≤ m ∧
  (∀ j, j < s.xs.length → ps[(s.o + j) % m]? = s.xs[j]?) ∧ (s.laid = true → ps[s.i % m]? = some s.lv)

def pval (pb m : Nat) : Value := if m = 0 then .slice none 0 0 else .slice (some ⟨pb, 0, none⟩) m m

def RingAt (w : World) (b pb m : Nat) (s : RingSt) : Prop :=
  RingOk s ∧ (∃ t, w.heap[b]? = some (.cells #[.int .i64 s.room, pval pb m, .int .u32 (s.i : Int), .int .u32 (s.o : Int), .bool s.laid] t (0, 0))) ∧
  ((m = 0 ∧ pb = b ∧ s.xs = [] ∧ s.laid = false) ∨ ∃ ps, Filled w b pb m s ps)

theorem cell_of {w : World} {b : Nat} {c : Array Value} {t : TypeId} {fr : Nat × Nat} (h : w.heap[b]? = some (.cells c t fr)) (k : Nat) : w.cell? ⟨b, k, none⟩ = c[k]? := by
  simp [World.cell?, h]
theorem frozen_of {w : World} {b : Nat} {c : Array Value} {t : TypeId} (h : w.heap[b]? = some (.cells c t (0, 0))) (k : Nat) : w.frozen? ⟨b, k, none⟩ = false := by
  simp [World.frozen?, h]
theorem lt_of_heap {w : World} {b : Nat} {x : Obj} (h : w.heap[b]? = some x) : b < w.heap.size := by
  rcases Nat.lt_or_ge b w.heap.size with h' | h'
  · exact h'
  · rw [Array.getElem?_eq_none h'] at h; cases h
theorem heap_set {w : World} {b : Nat} {c : Array Value} {t : TypeId} {fr : Nat × Nat} (h : w.heap[b]? = some (.cells c t fr)) (k : Nat) (v : Value) :
    (w.setCell ⟨b, k, none⟩ v).heap[b]? = some (.cells (c.setIfInBounds k v) t fr) := by
  simp [World.setCell, Array.getElem?_modify, h]
theorem heap_set_ne {w : World} {k : Nat} {a : Addr} (v : Value) (h : k ≠ a.block) : (w.setCell a v).heap[k]? = w.heap[k]? := Below.heap_setCell _ _ _ _ h

theorem heap_set2 {w : World} {p : Nat} {l : List Pk} {t : TypeId} {fr : Nat × Nat} (h : w.heap[p]? = some (.cells ⟨l.flatMap pk4⟩ t fr)) (q : Nat) (x : Pk) :
    ((((w.setCell ⟨p, q * 4, none⟩ (.int .i64 x.s)).setCell ⟨p, q * 4 + 1, none⟩ (.int .i64 x.d)).setCell ⟨p, q * 4 + 2, none⟩ (.int .i64 x.q)).setCell ⟨p, q * 4 + 3, none⟩ (.string x.x)).heap[p]? = some (.cells ⟨(l.set q x).flatMap pk4⟩ t fr) := by
  have h1 := heap_set (heap_set (heap_set (heap_set h (q * 4) (.int .i64 x.s)) (q * 4 + 1) (.int .i64 x.d)) (q * 4 + 2) (.int .i64 x.q)) (q * 4 + 3) (.string x.x)
  rw [h1, ← cc_set l q x]
  simp
theorem heap_set2_ne {w : World} {p k : Nat} (q : Nat) (x : Pk) (h : k ≠ p) : ((((w.setCell ⟨p, q * 4, none⟩ (.int .i64 x.s)).setCell ⟨p, q * 4 + 1, none⟩ (.int .i64 x.d)).setCell ⟨p, q * 4 + 2, none⟩ (.int .i64 x.q)).setCell ⟨p, q * 4 + 3, none⟩ (.string x.x)).heap[k]? = w.heap[k]? := by
  rw [heap_set_ne _ h, heap_set_ne _ h, heap_set_ne _ h, heap_set_ne _ h]
theorem RingAt.drewN {w : World} {b pb m : Nat} {s : RingSt} (h : RingAt w b pb m s) (n : Nat) : RingAt (w.drewN n) b pb m s := h
theorem RingAt.lt {w : World} {b pb m : Nat} {s : RingSt} (h : RingAt w b pb m s) : b < w.heap.size ∧ pb < w.heap.size := by
  obtain ⟨_, ⟨t, ht⟩, h3⟩ := h
  have h1 := lt_of_heap ht
  refine ⟨h1, ?_⟩
  rcases h3 with ⟨_, rfl, _⟩ | ⟨ps, _, _, _, h4, _⟩
  · exact h1
  · exact lt_of_heap h4

theorem RingAt.keep {w w' : World} {b pb m : Nat} {s : RingSt} (h : RingAt w b pb m s) (h1 : w'.heap[b]? = w.heap[b]?) (h2 : w'.heap[pb]? = w.heap[pb]?) : RingAt w' b pb m s := by
  obtain ⟨ok, ⟨t, ht⟩, h3⟩ := h
  refine ⟨ok, ⟨t, h1.trans ht⟩, ?_⟩
  rcases h3 with h3 | ⟨ps, a, b, c, d, e⟩
  · exact Or.inl h3
  · exact Or.inr ⟨ps, a, b, c, h2.trans d, e⟩

/-- Another ring's steps leave this one alone. -/
theorem RingAt.frame {w w' : World} {b pb m b2 pb2 : Nat} {s : RingSt} (h : RingAt w b pb m s) (f : Fr b2 pb2 w w') (h1 : b ≠ b2) (h2 : b ≠ pb2) (h3 : pb ≠ b2) (h4 : pb ≠ pb2) : RingAt w' b pb m s :=
  h.keep (f.block _ h.lt.1 h1 h2) (f.block _ h.lt.2 h3 h4)

theorem RingAt.below {w w' : World} {b pb m B : Nat} {s : RingSt} (h : RingAt w b pb m s) (f : Below B w w') (h1 : w.heap.size ≤ B) : RingAt w' b pb m s :=
  h.keep (f.block _ (by have := h.lt.1; omega)) (f.block _ (by have := h.lt.2; omega))

theorem pval_pos {pb m : Nat} (h : 0 < m) : pval pb m = .slice (some ⟨pb, 0, none⟩) m m := by unfold pval; rw [if_neg (by omega)]

section
variable {w : World} {b pb m : Nat} {s : RingSt}

theorem RingAt.len_eq (h : RingOk s) : ((s.i : Int) - s.o) % 4294967296 = s.xs.length := by
  obtain ⟨h1, h2, h3, h4⟩ := h
  omega

theorem ring_len (h : RingAt w b pb m s) : Calls Tryz.prog 77 #[.pointer (some ⟨b, 0, none⟩)] w fun e w' => e = .returned (.int .i64 s.xs.length) ∧ ∃ n, w' = w.drewN n := by
  obtain ⟨ok, ⟨t, ht⟩, _⟩ := h
  refine (len_any b s.i s.o w (by rw [cell_of ht]; rfl) (by rw [cell_of ht]; rfl)).mono ?_
  rintro e w' ⟨rfl, h⟩
  exact ⟨ret_int (RingAt.len_eq ok), h⟩

def RingSt.free (s : RingSt) : Int := min (max s.room 1) 4096 - ((s.xs.length + one s.laid : Nat) : Int)

theorem ring_room (h : RingAt w b pb m s) : Calls Tryz.prog 62 #[.pointer (some ⟨b, 0, none⟩)] w fun e w' => e = .returned (.int .i64 s.free) ∧ ∃ n, w' = w.drewN n := by
  obtain ⟨ok, ⟨t, ht⟩, _⟩ := h
  refine (room_any b s.room s.i s.o s.laid w (by rw [cell_of ht]; rfl) (by rw [cell_of ht]; rfl) (by rw [cell_of ht]; rfl) (by rw [cell_of ht]; rfl)).mono ?_
  rintro e w' ⟨rfl, h⟩
  refine ⟨ret_int ?_, h⟩
  rw [RingAt.len_eq ok, RingSt.free, one]
  cases s.laid <;> simp

end
end Go.Proofs.YtoejpngdkcnnhaaGreat.I.RP

namespace Go.Proofs.YtoejpngdkcnnhaaGreat.I.RP
open Go.RowKit

theorem pow_dvd {m k : Nat} (hk : m = 2 ^ k) (hm : m ≤ 4096) : m ∣ 4294967296 := by
  have : k ≤ 32 := by
    rcases Nat.lt_or_ge 32 k with h | h
    · have := Nat.pow_le_pow_right (n := 2) (by omega) h; omega
    · exact h
  rw [hk, show 4294967296 = 2 ^ 32 from rfl]
  exact Nat.pow_dvd_pow 2 this

theorem mod32 {m k : Nat} (hk : m = 2 ^ k) (hm : m ≤ 4096) (c : Nat) : c % 4294967296 % m = c % m := Nat.mod_mod_of_dvd c (pow_dvd hk hm)

theorem dist {m o j j' : Nat} (h1 : j < m) (h2 : j' < m) (h : (o + j) % m = (o + j') % m) : j = j' := by
  rcases Nat.lt_or_ge j j' with g | g
  · have h3 := Nat.sub_mod_eq_zero_of_mod_eq h.symm
    rw [show o + j' - (o + j) = j' - j by omega, Nat.mod_eq_of_lt (by omega)] at h3
    omega
  · have h3 := Nat.sub_mod_eq_zero_of_mod_eq h
    rw [show o + j - (o + j') = j - j' by omega, Nat.mod_eq_of_lt (by omega)] at h3
    omega

theorem toNat_mod (c m : Nat) : (((c : Nat) : Int) % (m : Int)).toNat = c % m := rfl

section
variable {w : World} {b pb m : Nat} {s : RingSt}

theorem ring_place (h : RingAt w b pb m s) (hm : 0 < m) (c : Nat) (hc : c < 4294967296) :
    Calls Tryz.prog 98 #[.pointer (some ⟨b, 0, none⟩), .int .u32 c] w fun e w' => e = .returned (.pointer (some ⟨pb, c % m * 4, none⟩)) ∧ ∃ n, w' = w.drewN n := by
  obtain ⟨ok, ⟨t, ht⟩, h3⟩ := h
  rcases h3 with h3 | ⟨ps, ⟨k, hk⟩, hm2, _⟩
  · omega
  · have := place_any b pb m k c w (by omega) (by omega) hk hm2 (by rw [cell_of ht, pval_pos hm]; rfl)
    rw [toNat_mod] at this
    exact this

theorem RingAt.pos (h : RingAt w b pb m s) (hx : s.xs ≠ [] ∨ s.laid = true) : 0 < m := by
  obtain ⟨ok, ⟨t, ht⟩, h3⟩ := h
  rcases h3 with ⟨_, _, h1, h2⟩ | ⟨ps, ⟨k, hk⟩, hm2, _⟩
  · rcases hx with hx | hx
    · exact absurd h1 hx
    · rw [h2] at hx; cases hx
  · rw [hk]; exact Nat.two_pow_pos k

theorem RingAt.filled (h : RingAt w b pb m s) (hm : 0 < m) : ∃ ps, Filled w b pb m s ps := by
  obtain ⟨ok, ⟨t, ht⟩, h3⟩ := h
  rcases h3 with h3 | h3
  · omega
  · exact h3

theorem Filled.cell {ps : List Pk} (h : Filled w b pb m s ps) {q : Nat} {v : Pk} (e : ps[q]? = some v) : w.cell? ⟨pb, q * 4, none⟩ = some (.int .i64 v.s) ∧ w.cell? ⟨pb, q * 4 + 1, none⟩ = some (.int .i64 v.d) ∧ w.cell? ⟨pb, q * 4 + 2, none⟩ = some (.int .i64 v.q) ∧ w.cell? ⟨pb, q * 4 + 3, none⟩ = some (.string v.x) := by
  obtain ⟨_, _, _, hp, _⟩ := h
  rw [cell_of hp, cell_of hp, cell_of hp, cell_of hp]
  obtain ⟨h1, h2, h3, h4⟩ := cc_at ps q v e
  exact ⟨by simpa using h1, by simpa using h2, by simpa using h3, by simpa using h4⟩
/-- A block that is new and holds a cell. -/
theorem new_cell (w : World) (x : Pk) (t : TypeId) : (w.alloc (.cells ⟨pk4 x⟩ t)).cell? ⟨w.heap.size, 0, none⟩ = some (.int .i64 x.s) ∧ (w.alloc (.cells ⟨pk4 x⟩ t)).cell? ⟨w.heap.size, 1, none⟩ = some (.int .i64 x.d) ∧ (w.alloc (.cells ⟨pk4 x⟩ t)).cell? ⟨w.heap.size, 2, none⟩ = some (.int .i64 x.q) ∧ (w.alloc (.cells ⟨pk4 x⟩ t)).cell? ⟨w.heap.size, 3, none⟩ = some (.string x.x) :=
  ⟨(cell_of (heap_alloc_new w _) 0).trans rfl, (cell_of (heap_alloc_new w _) 1).trans rfl, (cell_of (heap_alloc_new w _) 2).trans rfl, (cell_of (heap_alloc_new w _) 3).trans rfl⟩
theorem below_dn {B : Nat} {x y : World} (h : Below B x y) (n : Nat) : Below B x (y.drewN n) := h.trans ⟨rfl, rfl, rfl, Nat.le_refl _, fun _ _ => rfl⟩
theorem RingAt.next {w' : World} (h : RingAt w b pb m s) (hb : Below w.heap.size w w') : RingAt w' b pb m s := h.below hb (Nat.le_refl _)
/-- Two new blocks for a cell each. -/
theorem two_new (w : World) (t : TypeId) (cs ds : Array Value) : ((w.alloc (.cells cs t)).alloc (.cells ds t)).heap[w.heap.size]? = some (.cells cs t (0, 0)) ∧ ((w.alloc (.cells cs t)).alloc (.cells ds t)).heap[w.heap.size + 1]? = some (.cells ds t (0, 0)) ∧ Below w.heap.size w ((w.alloc (.cells cs t)).alloc (.cells ds t)) := by
  refine ⟨?_, ?_, ((Below.refl _ _).alloc (Nat.le_refl _) _).alloc (by simp) _⟩
  · rw [Below.heap_alloc _ _ _ (by simp)]
    exact heap_alloc_new w _
  · have := heap_alloc_new (w.alloc (.cells cs t)) (.cells ds t)
    rwa [show (w.alloc (.cells cs t)).heap.size = w.heap.size + 1 by simp] at this
theorem ring_peek_some (h : RingAt w b pb m s) {x : Pk} {r : List Pk} (hx : s.xs = x :: r) :
    Calls Tryz.prog 81 #[.pointer (some ⟨b, 0, none⟩)] w fun e w' => e = .returned (.tuple #[pkv x, .int .i64 0]) ∧ Below w.heap.size w w' := by
  have hm := h.pos (Or.inl (by rw [hx]; simp))
  obtain ⟨q1, q2, q3⟩ := two_new w 61 #[.int .i64 0, .int .i64 0, .int .i64 0, .string ⟨#[]⟩] #[.int .i64 0, .int .i64 0, .int .i64 0, .string ⟨#[]⟩]
  have HR := h.next q3
  obtain ⟨ps, hf⟩ := HR.filled hm
  obtain ⟨hc0, hc1, hc2, hc3⟩ := hf.cell (q := s.o % m) (v := x) (by have := hf.2.2.2.2.2.2.1 0 (by rw [hx]; simp); rw [hx] at this; simpa using this)
  have L := ring_len HR
  have P := fun n => ring_place (HR.drewN n) hm s.o h.1.ho
  have hl : ((s.xs.length : Int) == 0) = false := by rw [hx]; simp; omega
  have h3 : ((w.alloc (.cells #[.int .i64 0, .int .i64 0, .int .i64 0, .string ⟨#[]⟩] 61)).alloc (.cells #[.int .i64 0, .int .i64 0, .int .i64 0, .string ⟨#[]⟩] 61)).cell? ⟨b, 3, none⟩ = some (.int .u32 s.o) := by
    obtain ⟨_, ⟨t, ht⟩, _⟩ := HR
    rw [cell_of ht]; rfl
  have y0 := cell_of q1 0
  have y1 := cell_of q1 1
  have y2 := cell_of q1 2
  have y3 := cell_of q1 3
  have z0 := frozen_of q1 0
  have z1 := frozen_of q1 1
  have z2 := frozen_of q1 2
  have z3 := frozen_of q1 3
  simp only [List.getElem?_toArray, List.getElem?_cons_zero, List.getElem?_cons_succ] at y0 y1 y2 y3
  have B0 : Hid (Below w.heap.size w ((w.alloc (.cells #[.int .i64 0, .int .i64 0, .int .i64 0, .string ⟨#[]⟩] 61)).alloc (.cells #[.int .i64 0, .int .i64 0, .int .i64 0, .string ⟨#[]⟩] 61))) := q3
  have Q1 : Hid (((w.alloc (.cells #[.int .i64 0, .int .i64 0, .int .i64 0, .string ⟨#[]⟩] 61)).alloc (.cells #[.int .i64 0, .int .i64 0, .int .i64 0, .string ⟨#[]⟩] 61)).heap[w.heap.size]? = some (.cells #[.int .i64 0, .int .i64 0, .int .i64 0, .string ⟨#[]⟩] 61 (0, 0))) := q1
  have YY : Hid (∀ v : World, v.heap[w.heap.size]? = some (.cells #[.int .i64 0, .int .i64 0, .int .i64 0, .string ⟨#[]⟩] 61 (0, 0)) → ((((v.setCell ⟨w.heap.size, 0, none⟩ (.int .i64 x.s)).setCell ⟨w.heap.size, 1, none⟩ (.int .i64 x.d)).setCell ⟨w.heap.size, 2, none⟩ (.int .i64 x.q)).setCell ⟨w.heap.size, 3, none⟩ (.string x.x)).cell? ⟨w.heap.size, 0, none⟩ = some (.int .i64 x.s) ∧ ((((v.setCell ⟨w.heap.size, 0, none⟩ (.int .i64 x.s)).setCell ⟨w.heap.size, 1, none⟩ (.int .i64 x.d)).setCell ⟨w.heap.size, 2, none⟩ (.int .i64 x.q)).setCell ⟨w.heap.size, 3, none⟩ (.string x.x)).cell? ⟨w.heap.size, 1, none⟩ = some (.int .i64 x.d) ∧ ((((v.setCell ⟨w.heap.size, 0, none⟩ (.int .i64 x.s)).setCell ⟨w.heap.size, 1, none⟩ (.int .i64 x.d)).setCell ⟨w.heap.size, 2, none⟩ (.int .i64 x.q)).setCell ⟨w.heap.size, 3, none⟩ (.string x.x)).cell? ⟨w.heap.size, 2, none⟩ = some (.int .i64 x.q) ∧ ((((v.setCell ⟨w.heap.size, 0, none⟩ (.int .i64 x.s)).setCell ⟨w.heap.size, 1, none⟩ (.int .i64 x.d)).setCell ⟨w.heap.size, 2, none⟩ (.int .i64 x.q)).setCell ⟨w.heap.size, 3, none⟩ (.string x.x)).cell? ⟨w.heap.size, 3, none⟩ = some (.string x.x)) := show _ from fun v hv => by
    have := heap_set (heap_set (heap_set (heap_set hv 0 (.int .i64 x.s)) 1 (.int .i64 x.d)) 2 (.int .i64 x.q)) 3 (.string x.x)
    exact ⟨(cell_of this 0).trans (by simp), (cell_of this 1).trans (by simp), (cell_of this 2).trans (by simp), (cell_of this 3).trans (by simp)⟩
  obtain ⟨q, hq⟩ : ∃ q, s.o % m * 4 = q := ⟨_, rfl⟩
  rw [hq] at hc0 hc1 hc2 hc3
  simp only [hq] at P
  have hl' : Hid (((s.xs.length : Int) == 0) = false) := hl
  clear hl hq hx hf q1 q2 q3 HR h hm
  obtain ⟨l, hl2⟩ : ∃ l : Int, l = s.xs.length := ⟨_, rfl⟩
  rw [← hl2] at L hl'
  have hl3 : (l == 0) = false := hl'
  clear hl2 hl'
  generalize (s.o : Int) = o at *
  obtain ⟨xa, xb, xc, xd⟩ := x
  simp only at hc0 hc1 hc2 hc3 YY
  go_enter Tryz.func81, Tryz.ntmps81
  go_upto_region 2 with fail
  generalize (w.alloc (.cells #[.int .i64 0, .int .i64 0, .int .i64 0, .string ⟨#[]⟩] 61)).alloc (.cells #[.int .i64 0, .int .i64 0, .int .i64 0, .string ⟨#[]⟩] 61) = v at *
  go_wp2_with (first
    | (go_at_call 77; refine L.mono ?_; rintro e w' ⟨rfl, n, rfl⟩)
    | (go_at_call 98; refine (P _).mono ?_; rintro e w' ⟨rfl, n2, rfl⟩))
  obtain ⟨Y0, Y1, Y2, Y3⟩ := YY.out (v.drewN (n + n2)) Q1.out
  refine bodyPost_ret (v := .tuple #[.agg #[.int .i64 xa, .int .i64 xb, .int .i64 xc, .string xd], .int .i64 0]) (by simp [results, Tryz.results81, go_sem, Y0, Y1, Y2, Y3]; try rfl) rfl ⟨rfl, ((((below_dn B0.out _).setCell (Nat.le_refl _) _).setCell (Nat.le_refl _) _).setCell (Nat.le_refl _) _).setCell (Nat.le_refl _) _⟩
theorem ring_peek_none (h : RingAt w b pb m s) (hx : s.xs = []) :
    Calls Tryz.prog 81 #[.pointer (some ⟨b, 0, none⟩)] w fun e w' => e = .returned (.tuple #[pkv zc, .int .i64 8]) ∧ Below w.heap.size w w' := by
  obtain ⟨q1, q2, q3⟩ := two_new w 61 #[.int .i64 0, .int .i64 0, .int .i64 0, .string ⟨#[]⟩] #[.int .i64 0, .int .i64 0, .int .i64 0, .string ⟨#[]⟩]
  have L := ring_len (h.next q3)
  rw [hx] at L
  have y0 := cell_of q1 0
  have y1 := cell_of q1 1
  have y2 := cell_of q1 2
  have y3 := cell_of q1 3
  have z0 := frozen_of q1 0
  have z1 := frozen_of q1 1
  have z2 := frozen_of q1 2
  have z3 := frozen_of q1 3
  have x0 := cell_of q2 0
  have x1 := cell_of q2 1
  have x2 := cell_of q2 2
  have x3 := cell_of q2 3
  simp only [List.getElem?_toArray, List.getElem?_cons_zero, List.getElem?_cons_succ] at y0 y1 y2 y3 x0 x1 x2 x3
  have B0 : Hid (Below w.heap.size w ((w.alloc (.cells #[.int .i64 0, .int .i64 0, .int .i64 0, .string ⟨#[]⟩] 61)).alloc (.cells #[.int .i64 0, .int .i64 0, .int .i64 0, .string ⟨#[]⟩] 61))) := q3
  have YY : Hid (∀ v : World, v.heap[w.heap.size]? = some (.cells #[.int .i64 0, .int .i64 0, .int .i64 0, .string ⟨#[]⟩] 61 (0, 0)) → ((((v.setCell ⟨w.heap.size, 0, none⟩ (.int .i64 0)).setCell ⟨w.heap.size, 1, none⟩ (.int .i64 0)).setCell ⟨w.heap.size, 2, none⟩ (.int .i64 0)).setCell ⟨w.heap.size, 3, none⟩ (.string ⟨#[]⟩)).cell? ⟨w.heap.size, 0, none⟩ = some (.int .i64 0) ∧ ((((v.setCell ⟨w.heap.size, 0, none⟩ (.int .i64 0)).setCell ⟨w.heap.size, 1, none⟩ (.int .i64 0)).setCell ⟨w.heap.size, 2, none⟩ (.int .i64 0)).setCell ⟨w.heap.size, 3, none⟩ (.string ⟨#[]⟩)).cell? ⟨w.heap.size, 1, none⟩ = some (.int .i64 0) ∧ ((((v.setCell ⟨w.heap.size, 0, none⟩ (.int .i64 0)).setCell ⟨w.heap.size, 1, none⟩ (.int .i64 0)).setCell ⟨w.heap.size, 2, none⟩ (.int .i64 0)).setCell ⟨w.heap.size, 3, none⟩ (.string ⟨#[]⟩)).cell? ⟨w.heap.size, 2, none⟩ = some (.int .i64 0) ∧ ((((v.setCell ⟨w.heap.size, 0, none⟩ (.int .i64 0)).setCell ⟨w.heap.size, 1, none⟩ (.int .i64 0)).setCell ⟨w.heap.size, 2, none⟩ (.int .i64 0)).setCell ⟨w.heap.size, 3, none⟩ (.string ⟨#[]⟩)).cell? ⟨w.heap.size, 3, none⟩ = some (.string ⟨#[]⟩)) := show _ from fun v hv => by
    have := heap_set (heap_set (heap_set (heap_set hv 0 (.int .i64 0)) 1 (.int .i64 0)) 2 (.int .i64 0)) 3 (.string ⟨#[]⟩)
    exact ⟨(cell_of this 0).trans (by simp), (cell_of this 1).trans (by simp), (cell_of this 2).trans (by simp), (cell_of this 3).trans (by simp)⟩
  have Q1 : Hid (((w.alloc (.cells #[.int .i64 0, .int .i64 0, .int .i64 0, .string ⟨#[]⟩] 61)).alloc (.cells #[.int .i64 0, .int .i64 0, .int .i64 0, .string ⟨#[]⟩] 61)).heap[w.heap.size]? = some (.cells #[.int .i64 0, .int .i64 0, .int .i64 0, .string ⟨#[]⟩] 61 (0, 0))) := q1
  clear hx h q1 q2 q3
  simp only [zc, pkv]
  go_enter Tryz.func81, Tryz.ntmps81
  go_upto_region 2 with fail
  generalize (w.alloc (.cells #[.int .i64 0, .int .i64 0, .int .i64 0, .string ⟨#[]⟩] 61)).alloc (.cells #[.int .i64 0, .int .i64 0, .int .i64 0, .string ⟨#[]⟩] 61) = v at *
  go_wp2_with (go_at_call 77; refine L.mono ?_; rintro e w' ⟨rfl, n, rfl⟩)
  obtain ⟨Y0, Y1, Y2, Y3⟩ := YY.out (v.drewN n) Q1.out
  refine bodyPost_ret (v := .tuple #[.agg #[.int .i64 0, .int .i64 0, .int .i64 0, .string ⟨#[]⟩], .int .i64 8]) (by simp [results, Tryz.results81, go_sem, Y0, Y1, Y2, Y3]; try rfl) rfl ⟨rfl, ((((below_dn B0.out _).setCell (Nat.le_refl _) _).setCell (Nat.le_refl _) _).setCell (Nat.le_refl _) _).setCell (Nat.le_refl _) _⟩

theorem ring_publish_none (h : RingAt w b pb m s) (hx : s.laid = false) :
    Calls Tryz.prog 80 #[.pointer (some ⟨b, 0, none⟩)] w fun e w' => e = .returned (.int .i64 13) ∧ w = w' := by
  have h4 : w.cell? ⟨b, 4, none⟩ = some (.bool false) := by obtain ⟨_, ⟨t, ht⟩, _⟩ := h; rw [cell_of ht, hx]; rfl
  clear hx h
  go_enter Tryz.func80, Tryz.ntmps80
  go_wp2
  go_ret
  exact ⟨rfl, rfl⟩

def RingSt.published (s : RingSt) : RingSt := { s with i := (s.i + 1) % 4294967296, laid := false, xs := s.xs ++ [s.lv] }

theorem at_published (h : RingAt w b pb m s) (hx : s.laid = true) : RingAt ((w.setCell ⟨b, 4, none⟩ (.bool false)).setCell ⟨b, 2, none⟩ (.int .u32 (((s.i : Int) + 1) % 4294967296))) b pb m s.published := by
  have hm := h.pos (Or.inr hx)
  obtain ⟨ps, ⟨k, hk⟩, hm2, hne, hp, hpl, hcap, hxs, hlv⟩ := h.filled hm
  obtain ⟨ok, ⟨t, ht⟩, h3⟩ := h
  obtain ⟨o1, o2, o3, o4⟩ := ok
  simp only [one, hx, if_true] at o4 hcap
  refine ⟨⟨?_, o2, ?_, ?_⟩, ⟨t, ?_⟩, Or.inr ⟨ps, ⟨k, hk⟩, hm2, hne, ?_, hpl, ?_, ?_, ?_⟩⟩
  · simp [RingSt.published]; omega
  · simp [RingSt.published]; omega
  · simp [RingSt.published, one]; omega
  · rw [heap_set (heap_set ht 4 _) 2 _]
    simp [RingSt.published]
  · rw [heap_set_ne _ hne, heap_set_ne _ hne, hp]
  · simp [RingSt.published, one]; omega
  · intro j hj
    simp only [RingSt.published, List.length_append, List.length_singleton] at hj ⊢
    rcases Nat.lt_or_ge j s.xs.length with g | g
    · rw [List.getElem?_append_left g]; exact hxs j g
    · have e : j = s.xs.length := by omega
      subst e
      rw [← mod32 hk hm2, o3, hlv hx]; simp
  · intro c; simp [RingSt.published] at c

theorem ring_publish_some (h : RingAt w b pb m s) (hx : s.laid = true) :
    Calls Tryz.prog 80 #[.pointer (some ⟨b, 0, none⟩)] w fun e w' => e = .returned (.int .i64 0) ∧ RingAt w' b pb m s.published ∧ Fr b pb w w' := by
  have hA := at_published h hx
  obtain ⟨_, ⟨t, ht⟩, _⟩ := h
  have h4 : w.cell? ⟨b, 4, none⟩ = some (.bool true) := by rw [cell_of ht, hx]; rfl
  have h2 : w.cell? ⟨b, 2, none⟩ = some (.int .u32 s.i) := by rw [cell_of ht]; rfl
  have f2 := frozen_of ht 2
  have f4 := frozen_of ht 4
  clear ht hx
  go_enter Tryz.func80, Tryz.ntmps80
  go_wp2
  go_ret
  exact ⟨rfl, hA, ((Fr.refl _ _ _).set0 _ _).set0 _ _⟩

theorem ring_free_none (h : RingAt w b pb m s) (hx : s.xs = []) :
    Calls Tryz.prog 82 #[.pointer (some ⟨b, 0, none⟩)] w fun e w' => e = .returned (.int .i64 8) ∧ ∃ n, w' = w.drewN n := by
  have L := ring_len h
  rw [hx] at L
  clear hx h
  go_enter Tryz.func82, Tryz.ntmps82
  go_wp2_with (first
      | (go_at_call 77; refine L.mono ?_; rintro e w' ⟨rfl, n, rfl⟩))
  go_ret
  exact ⟨rfl, _, rfl⟩

def RingSt.freed (s : RingSt) : RingSt := { s with o := (s.o + 1) % 4294967296, xs := s.xs.tail }

theorem at_freed (h : RingAt w b pb m s) {x : Pk} {r : List Pk} (hx : s.xs = x :: r) :
    RingAt (((((w.setCell ⟨pb, s.o % m * 4, none⟩ (.int .i64 0)).setCell ⟨pb, s.o % m * 4 + 1, none⟩ (.int .i64 0)).setCell ⟨pb, s.o % m * 4 + 2, none⟩ (.int .i64 0)).setCell ⟨pb, s.o % m * 4 + 3, none⟩ (.string ⟨#[]⟩)).setCell ⟨b, 3, none⟩ (.int .u32 (((s.o : Int) + 1) % 4294967296))) b pb m s.freed := by
  have hm := h.pos (Or.inl (by rw [hx]; simp))
  obtain ⟨ps, ⟨k, hk⟩, hm2, hne, hp, hpl, hcap, hxs, hlv⟩ := h.filled hm
  obtain ⟨ok, ⟨t, ht⟩, h3⟩ := h
  obtain ⟨o1, o2, o3, o4⟩ := ok
  rw [hx] at o3 o4 hcap hxs
  simp only [List.length_cons] at o3 o4 hcap hxs
  refine ⟨⟨o1, ?_, ?_, ?_⟩, ⟨t, ?_⟩, Or.inr ⟨ps.set (s.o % m) zc, ⟨k, hk⟩, hm2, hne, ?_, by simpa using hpl, ?_, ?_, ?_⟩⟩
  · simp [RingSt.freed]; omega
  · simp [RingSt.freed, hx]; omega
  · simp [RingSt.freed, hx]; omega
  · refine (heap_set (c := #[.int .i64 s.room, pval pb m, .int .u32 (s.i : Int), .int .u32 (s.o : Int), .bool s.laid]) (t := t) (fr := (0, 0)) ((heap_set2_ne (s.o % m) zc hne.symm).trans ht) 3 _).trans ?_
    simp [RingSt.freed]
  · rw [heap_set_ne _ hne]
    exact heap_set2 hp (s.o % m) zc
  · simp [RingSt.freed, hx]; omega
  · intro j hj
    simp only [RingSt.freed, hx, List.tail_cons] at hj ⊢
    have e : ((s.o + 1) % 4294967296 + j) % m = (s.o + (j + 1)) % m := by
      rw [Nat.add_mod, mod32 hk hm2, ← Nat.add_mod]; congr 1; omega
    have e2 := hxs (j + 1) (by omega)
    rw [e, List.getElem?_set_ne, e2]
    · simp
    · intro c
      have := dist (m := m) (o := s.o) (j := 0) (j' := j + 1) hm (by omega) (by simpa using c)
      omega
  · intro c
    have c' : s.laid = true := c
    simp only [one, c', if_true] at hcap
    rw [List.getElem?_set_ne]
    · exact hlv c'
    · intro d
      have e : s.i % m = (s.o + (r.length + 1)) % m := by rw [← o3, mod32 hk hm2]
      have d' : s.o % m = s.i % m := d
      rw [e] at d'
      have := dist (m := m) (o := s.o) (j := 0) (j' := r.length + 1) hm (by omega) (by simpa using d')
      omega

set_option maxHeartbeats 2000000 in
theorem ring_free_some (h : RingAt w b pb m s) {x : Pk} {r : List Pk} (hx : s.xs = x :: r) :
    Calls Tryz.prog 82 #[.pointer (some ⟨b, 0, none⟩)] w fun e w' => e = .returned (.int .i64 0) ∧ RingAt w' b pb m s.freed ∧ Fr b pb w w' := by
  have hm := h.pos (Or.inl (by rw [hx]; simp))
  have L := ring_len h
  have hl : ((s.xs.length : Int) == 0) = false := by rw [hx]; simp; omega
  have hne : pb ≠ b := by
    obtain ⟨ps, hf⟩ := h.filled hm
    exact hf.2.2.1
  have hlt := h.lt
  have HA : Hid (∀ V, Below w.heap.size w V → RingAt V b pb m s) := show _ from fun V hV => h.next hV
  have HAF : Hid (∀ V, RingAt V b pb m s → RingAt (((((V.setCell ⟨pb, s.o % m * 4, none⟩ (.int .i64 0)).setCell ⟨pb, s.o % m * 4 + 1, none⟩ (.int .i64 0)).setCell ⟨pb, s.o % m * 4 + 2, none⟩ (.int .i64 0)).setCell ⟨pb, s.o % m * 4 + 3, none⟩ (.string ⟨#[]⟩)).setCell ⟨b, 3, none⟩ (.int .u32 (((s.o : Int) + 1) % 4294967296))) b pb m s.freed) := show _ from fun V hV => at_freed hV hx
  have HC : Hid (∀ V, RingAt V b pb m s → V.cell? ⟨b, 3, none⟩ = some (.int .u32 s.o) ∧ V.frozen? ⟨b, 3, none⟩ = false ∧ (∃ y, V.cell? ⟨pb, s.o % m * 4, none⟩ = some y) ∧ (∃ y, V.cell? ⟨pb, s.o % m * 4 + 1, none⟩ = some y) ∧ (∃ y, V.cell? ⟨pb, s.o % m * 4 + 2, none⟩ = some y) ∧ (∃ y, V.cell? ⟨pb, s.o % m * 4 + 3, none⟩ = some y) ∧ V.frozen? ⟨pb, s.o % m * 4, none⟩ = false ∧ V.frozen? ⟨pb, s.o % m * 4 + 1, none⟩ = false ∧ V.frozen? ⟨pb, s.o % m * 4 + 2, none⟩ = false ∧ V.frozen? ⟨pb, s.o % m * 4 + 3, none⟩ = false) := show _ from fun V hV => by
    obtain ⟨ps, hf⟩ := hV.filled hm
    obtain ⟨hc0, hc1, hc2, hc3⟩ := hf.cell (q := s.o % m) (v := x) (by have := hf.2.2.2.2.2.2.1 0 (by rw [hx]; simp); rw [hx] at this; simpa using this)
    obtain ⟨_, ⟨t, ht⟩, _⟩ := hV
    exact ⟨by rw [cell_of ht]; rfl, frozen_of ht 3, ⟨_, hc0⟩, ⟨_, hc1⟩, ⟨_, hc2⟩, ⟨_, hc3⟩, frozen_of hf.2.2.2.1 _, frozen_of hf.2.2.2.1 _, frozen_of hf.2.2.2.1 _, frozen_of hf.2.2.2.1 _⟩
  have HP : Hid (∀ V, RingAt V b pb m s → Calls Tryz.prog 98 #[.pointer (some ⟨b, 0, none⟩), .int .u32 s.o] V fun e w' => e = .returned (.pointer (some ⟨pb, s.o % m * 4, none⟩)) ∧ ∃ n, w' = V.drewN n) := show _ from fun V hV => ring_place hV hm s.o h.1.ho
  obtain ⟨q, hq⟩ : ∃ q, s.o % m * 4 = q := ⟨_, rfl⟩
  rw [hq] at HAF HC HP
  clear hq hx h hm
  have hl' : Hid (((s.xs.length : Int) == 0) = false) := hl
  clear hl
  obtain ⟨l, hl2⟩ : ∃ l : Int, l = s.xs.length := ⟨_, rfl⟩
  rw [← hl2] at L hl'
  have hl3 : (l == 0) = false := hl'
  clear hl2 hl'
  generalize hsf : s.freed = sf at *
  clear hsf
  have ho : (0 : Int) ≤ (s.o : Int) := by omega
  generalize (s.o : Int) = o at *
  go_enter Tryz.func82, Tryz.ntmps82
  go_upto_region 6 with (go_at_call 77; refine L.mono ?_; rintro e w' ⟨rfl, n, rfl⟩)
  have B0 : Hid (Below w.heap.size w ((w.drewN n).alloc (.cells #[.int .i64 0, .int .i64 0, .int .i64 0, .string ⟨#[]⟩] 61))) := (below_dn (Below.refl _ _) n).alloc (Nat.le_refl _) _
  have N0 : Hid (((w.drewN n).alloc (.cells #[.int .i64 0, .int .i64 0, .int .i64 0, .string ⟨#[]⟩] 61)).heap[w.heap.size]? = some (.cells #[.int .i64 0, .int .i64 0, .int .i64 0, .string ⟨#[]⟩] 61 (0, 0))) := heap_alloc_new (w.drewN n) _
  clear L
  generalize (w.drewN n).alloc (.cells #[.int .i64 0, .int .i64 0, .int .i64 0, .string ⟨#[]⟩] 61) = v at *
  have SS : Hid (∀ n, (v.drewN n).cell? ⟨b, 3, none⟩ = some (.int .u32 o) ∧ (v.drewN n).cell? ⟨w.heap.size, 0, none⟩ = some (.int .i64 0) ∧ (v.drewN n).cell? ⟨w.heap.size, 1, none⟩ = some (.int .i64 0) ∧ (v.drewN n).cell? ⟨w.heap.size, 2, none⟩ = some (.int .i64 0) ∧ (v.drewN n).cell? ⟨w.heap.size, 3, none⟩ = some (.string ⟨#[]⟩)) := show _ from fun n => ⟨(HC.out _ (HA.out _ (below_dn B0.out n))).1, (cell_of N0.out 0).trans rfl, (cell_of N0.out 1).trans rfl, (cell_of N0.out 2).trans rfl, (cell_of N0.out 3).trans rfl⟩
  have S0 : (fun V : World => V.cell? ⟨b, 3, none⟩ = some (.int .u32 o) ∧ V.cell? ⟨w.heap.size, 0, none⟩ = some (.int .i64 0) ∧ V.cell? ⟨w.heap.size, 1, none⟩ = some (.int .i64 0) ∧ V.cell? ⟨w.heap.size, 2, none⟩ = some (.int .i64 0) ∧ V.cell? ⟨w.heap.size, 3, none⟩ = some (.string ⟨#[]⟩)) v.drew := SS.out 1
  refine wp_region_G (fun V : World => V.cell? ⟨b, 3, none⟩ = some (.int .u32 o) ∧ V.cell? ⟨w.heap.size, 0, none⟩ = some (.int .i64 0) ∧ V.cell? ⟨w.heap.size, 1, none⟩ = some (.int .i64 0) ∧ V.cell? ⟨w.heap.size, 2, none⟩ = some (.int .i64 0) ∧ V.cell? ⟨w.heap.size, 3, none⟩ = some (.string ⟨#[]⟩)) 8 (by kernel_rfl) ?_
  refine wpAnyG_take [8] (some 11) (i := 0) (v := ?v0) rfl rfl (by kernel_rfl) (by kernel_rfl) (by kernel_rfl) (by kernel_rfl) (fun _ _ _ h => h) (Or.inl ⟨by rfl, ?y0⟩) S0 ?r0
  case y0 => (intro V hSV; obtain ⟨d0, d1, d2, d3, d4⟩ := hSV; go_simp; try with_reducible rfl)
  simp only [Act.put, List.setIfInBounds_toArray, List.set_cons_zero, List.set_cons_succ]
  refine wpAnyG_take [8] (some 12) (i := 1) (v := ?v1) rfl rfl (by kernel_rfl) (by kernel_rfl) (by kernel_rfl) (by kernel_rfl) (fun _ _ _ h => h) (Or.inl ⟨by rfl, ?y1⟩) S0 ?r1
  case y1 => (intro V hSV; obtain ⟨d0, d1, d2, d3, d4⟩ := hSV; go_simp; try with_reducible rfl)
  simp only [Act.put, List.setIfInBounds_toArray, List.set_cons_zero, List.set_cons_succ]
  refine wpAnyG_take [8] (some 13) (i := 2) (v := ?v2) rfl rfl (by kernel_rfl) (by kernel_rfl) (by kernel_rfl) (by kernel_rfl) (fun _ _ _ h => h) (Or.inl ⟨by rfl, ?y2⟩) S0 ?r2
  case y2 => (intro V hSV; obtain ⟨d0, d1, d2, d3, d4⟩ := hSV; go_simp; try with_reducible rfl)
  simp only [Act.put, List.setIfInBounds_toArray, List.set_cons_zero, List.set_cons_succ]
  refine wpAnyG_take [8] (some 14) (i := 3) (v := ?v3) rfl rfl (by kernel_rfl) (by kernel_rfl) (by kernel_rfl) (by kernel_rfl) (fun _ _ _ h => h) (Or.inl ⟨by rfl, ?y3⟩) S0 ?r3
  case y3 => (intro V hSV; obtain ⟨d0, d1, d2, d3, d4⟩ := hSV; go_simp; try with_reducible rfl)
  simp only [Act.put, List.setIfInBounds_toArray, List.set_cons_zero, List.set_cons_succ]
  refine wpAnyG_take [8] (some 15) (i := 4) (v := ?v4) rfl rfl (by kernel_rfl) (by kernel_rfl) (by kernel_rfl) (by kernel_rfl) (fun _ _ _ h => h) (Or.inl ⟨by rfl, ?y4⟩) S0 ?r4
  case y4 => (intro V hSV; obtain ⟨d0, d1, d2, d3, d4⟩ := hSV; go_simp; try with_reducible rfl)
  simp only [Act.put, List.setIfInBounds_toArray, List.set_cons_zero, List.set_cons_succ]
  refine wpAnyG_take [8] (some 17) (i := 6) (v := ?v6) rfl rfl (by kernel_rfl) (by kernel_rfl) (by kernel_rfl) (by kernel_rfl) (fun _ _ _ h => h) (Or.inl ⟨by rfl, ?y6⟩) S0 ?r6
  case y6 => (intro V hSV; obtain ⟨d0, d1, d2, d3, d4⟩ := hSV; go_simp; try with_reducible rfl)
  simp only [Act.put, List.setIfInBounds_toArray, List.set_cons_zero, List.set_cons_succ]
  refine wpAnyG_one (i := 5) (by kernel_rfl) rfl (fun K hK => ?_)
  go_simp
  refine (HP.out (v.drewN 1) (HA.out _ (below_dn B0.out 1))).mono ?_
  rintro e w' ⟨rfl, n2, rfl⟩
  have B2 : Hid (Below w.heap.size w ((v.drewN 1).drewN n2)) := below_dn (below_dn B0.out 1) n2
  have S2 : (fun V : World => V.cell? ⟨b, 3, none⟩ = some (.int .u32 o) ∧ V.cell? ⟨w.heap.size, 0, none⟩ = some (.int .i64 0) ∧ V.cell? ⟨w.heap.size, 1, none⟩ = some (.int .i64 0) ∧ V.cell? ⟨w.heap.size, 2, none⟩ = some (.int .i64 0) ∧ V.cell? ⟨w.heap.size, 3, none⟩ = some (.string ⟨#[]⟩)) ((v.drewN 1).drewN n2) := ⟨(HC.out _ (HA.out _ B2.out)).1, (cell_of N0.out 0).trans rfl, (cell_of N0.out 1).trans rfl, (cell_of N0.out 2).trans rfl, (cell_of N0.out 3).trans rfl⟩
  refine hK.out _ _ (Or.inr S2) ?_
  clear hK K S0 SS
  generalize (v.drewN 1).drewN n2 = u at *
  refine wpAnyG_one (i := 7) (by kernel_rfl) rfl (fun K hK => ?_)
  go_simp
  refine hK.out _ _ (Or.inr S2) ?_
  clear hK K
  obtain ⟨g3, f3, ⟨y0, g0⟩, ⟨y1, g1⟩, ⟨y2, g2⟩, ⟨y3, g4⟩, f0, f1, f2, f4⟩ := HC.out u (HA.out u B2.out)
  refine wpAnyG_one (i := 8) (by kernel_rfl) rfl (fun K hK => ?_)
  go_simp
  refine hK.out _ _ (Or.inl (by kernel_rfl)) ?_
  clear hK K S2
  refine wpAnyG_done (by kernel_rfl) ?_ _
  go_wp2
  go_ret
  exact ⟨rfl, HAF.out u (HA.out u B2.out), ((((((Fr.ofBelow B2.out (Nat.le_refl _) : Fr b pb w u).set1 _ _).set1 _ _).set1 _ _).set1 _ _).set0 _ _)⟩

end
end Go.Proofs.YtoejpngdkcnnhaaGreat.I.RP

namespace Go.Proofs.YtoejpngdkcnnhaaGreat.I.RP
open Go.RowKit

theorem Tryz.info61 : (Tryz.prog.info? 61).map (fun i => (i.zero, i.size, i.bytes)) = some (some (.agg #[.int .i64 0, .int .i64 0, .int .i64 0, .string ⟨#[]⟩]), 4, 40) := by kernel_rfl

/-- The slice value v is the call's own (blocks from B on) and holds l. -/
def Ints (w : World) (B : Nat) (v : Value) (l : List Pk) : Prop := w.ownsRow B 61 4 v l.length (l.flatMap pk4)

theorem Ints.drewN {w : World} {B : Nat} {v : Value} {l : List Pk} (h : Ints w B v l) (n : Nat) : Ints (w.drewN n) B v l := h

theorem take_snoc' (l : List Pk) (k : Nat) (h : k < l.length) : l.take (k + 1) = l.take k ++ [l.getD k zc] := by
  rw [List.take_succ_eq_append_getElem h]; simp [h]

theorem Ints.snoc {w : World} {B : Nat} {v : Value} {l : List Pk} {k : Nat} (hk : k < l.length)
    (h : w.ownsRow B 61 4 v (min k l.length + 1) ((l.take k).flatMap pk4 ++ pk4 (l.getD k zc))) : Ints w B v (l.take (k + 1)) := by
  unfold Ints
  rw [take_snoc' l k hk, List.flatMap_append, List.length_append]
  simpa using h

section
variable {w : World} {b pb m : Nat} {s : RingSt}
set_option maxHeartbeats 800000 in
theorem ring_all (h : RingAt w b pb m s) :
    Calls Tryz.prog 105 #[.pointer (some ⟨b, 0, none⟩)] w fun e w' => ∃ v, e = .returned v ∧ Ints w' w.heap.size v s.xs ∧ Below w.heap.size w w' := by
  obtain ⟨i0, hi, hz0, hz1, hz2⟩ := info_parts Tryz.info61
  have L := ring_len h
  have hlen : s.xs.length ≤ 4096 := by have := h.1.hcap; omega
  have hb := h.lt
  obtain ⟨B, hB⟩ : ∃ B, B = w.heap.size := ⟨_, rfl⟩
  rw [← hB]
  obtain ⟨n, hn⟩ : ∃ n : Nat, n = s.xs.length := ⟨_, rfl⟩
  rw [← hn] at L
  have HB : Hid (B = w.heap.size) := hB
  have HN : Hid (n = s.xs.length) := hn
  have hn1 : n ≤ 4096 := by omega
  clear hB hn hlen
  go_enter Tryz.func105, Tryz.ntmps105
  go_wp2_with (go_at_call 77; refine L.mono ?_; rintro e w' ⟨rfl, nq, rfl⟩)
  go_loopw [3, 7] (fun v i wr => ∃ k : Nat, k ≤ n ∧ i = .int .i64 k ∧ Ints wr B v (s.xs.take k) ∧ Below B w wr) (fun _ i _ => n - (intOf i).toNat)
  case atStart => exact ⟨0, Nat.zero_le _, rfl, World.ownsRow_nil _ _ _ _, below_drewN (Below.refl _ _) _⟩
  case round =>
    obtain ⟨k, hk, rfl, hown, hbel⟩ := hrel
    by_cases hlt : k < n
    · have hl : k < s.xs.length := by have := HN.out; omega
      have hR := h.below hbel (by have := HB.out; omega)
      have hm := h.pos (Or.inl (by intro c; rw [c] at hl; simp at hl))
      obtain ⟨ps, hf⟩ := hR.filled hm
      obtain ⟨hc, hd, he, hg⟩ := hf.cell (q := (s.o + k) % m) (v := s.xs.getD k zc) (by rw [hf.2.2.2.2.2.2.1 k hl]; simp [hl])
      have P : ∀ n, Calls Tryz.prog 98 #[.pointer (some ⟨b, 0, none⟩), .int .u32 (((s.o : Int) + k) % 4294967296)] (wr.drewN n) fun e w' => e = .returned (.pointer (some ⟨pb, (s.o + k) % m * 4, none⟩)) ∧ ∃ n', w' = (wr.drewN n).drewN n' := fun n => by
        have := ring_place (hR.drewN n) hm ((s.o + k) % 4294967296) (by omega)
        obtain ⟨⟨kk, hkk⟩, hm2, _⟩ := hf
        rw [mod32 hkk hm2] at this
        have e : (((s.o + k) % 4294967296 : Nat) : Int) = ((s.o : Int) + k) % 4294967296 := by omega
        rw [e] at this
        exact this
      have P0 : Calls Tryz.prog 98 #[.pointer (some ⟨b, 0, none⟩), .int .u32 (((s.o : Int) + k) % 4294967296)] wr fun e w' => e = .returned (.pointer (some ⟨pb, (s.o + k) % m * 4, none⟩)) ∧ ∃ n', w' = wr.drewN n' := P 0
      have h3 : wr.cell? ⟨b, 3, none⟩ = some (.int .u32 s.o) := by obtain ⟨_, ⟨t, ht⟩, _⟩ := hR; rw [cell_of ht]; rfl
      have hsz : B ≤ wr.heap.size := by have := hbel.size; have := HB.out; omega
      have hkl : (s.xs.take k).length = k := by simp; omega
      have HKL : Hid ((s.xs.take k).length = k) := hkl
      clear hkl hf hm hR P
      obtain ⟨x, hx⟩ : ∃ x, x = s.xs.getD k zc := ⟨_, rfl⟩
      rw [← hx] at hc hd he hg
      have HX : Hid (x = s.xs.getD k zc) := hx
      clear hx
      go_wp2_with (first
        | (go_at_call 98; refine P0.mono ?_; rintro e w' ⟨rfl, n2, rfl⟩)
        | (at_builtin; refine wpList_append_own _ rfl _ _ 125 rfl B 61 i0 (.agg #[.int .i64 0, .int .i64 0, .int .i64 0, .string ⟨#[]⟩]) 4 40 Tryz.underlying125 hi hz0 hz1 hz2 rfl (by decide) _ _ _ rfl ((hown.drewN _).alloc _) ⟨wr.heap.size, 0, none⟩ 1 1 (pk4 x) rfl rfl ?c1 ?c2 ?c3 ?c4 ?c5 ?_))
      case c1 =>
        intro j u hj
        match j, hj with
        | 0, hj => simp at hj; subst hj; exact (World.cell?_alloc_at _ _ _ _ rfl).trans rfl
        | 1, hj => simp at hj; subst hj; exact (World.cell?_alloc_at _ _ _ _ rfl).trans rfl
        | 2, hj => simp at hj; subst hj; exact (World.cell?_alloc_at _ _ _ _ rfl).trans rfl
        | 3, hj => simp at hj; subst hj; exact (World.cell?_alloc_at _ _ _ _ rfl).trans rfl
      case c2 => intro u hu; simp at hu; rcases hu with rfl | rfl | rfl | rfl <;> rfl
      case c3 => have := HKL.out; unfold maxLen; omega
      case c4 => have := HKL.out; omega
      case c5 => simp; omega
      · intro v' w1 hown' hgrow _
        have hown2 : Ints w1 B v' (s.xs.take (k + 1)) := by
          rw [HX.out] at hown'
          exact Ints.snoc hl hown'
        have hbel2 : Below B w w1 := Below.grown ((below_drewN hbel n2).alloc (by simpa using hsz) _) hgrow (by simp; omega) (fun q hq => (hown.lt q hq).1)
        clear hown' hgrow hown hbel hc hd he hg P0 h3
        go_wp2
        go_roundw
        case rel => exact ⟨k + 1, by omega, by go_num, hown2, hbel2⟩
        case measure => simp [intOf]; omega
    · go_wp2
      go_ret
      exact ⟨_, rfl, by rw [List.take_of_length_le (by have := HN.out; omega)] at hown; exact hown, hbel⟩

end
end Go.Proofs.YtoejpngdkcnnhaaGreat.I.RP

namespace Go.Proofs.YtoejpngdkcnnhaaGreat.I.RP
open Go.RowKit

/-- What a slice value of the call's own reads as. -/
def Src (w : World) (B : Nat) (a : Option Addr) (l : List Pk) : Prop :=
  ∀ j, j < l.length → ∃ g, a = some ⟨g, 0, none⟩ ∧ B ≤ g ∧ g < w.heap.size ∧ w.cell? ⟨g, j * 4, none⟩ = some (.int .i64 (l.getD j zc).s) ∧ w.cell? ⟨g, j * 4 + 1, none⟩ = some (.int .i64 (l.getD j zc).d) ∧ w.cell? ⟨g, j * 4 + 2, none⟩ = some (.int .i64 (l.getD j zc).q) ∧ w.cell? ⟨g, j * 4 + 3, none⟩ = some (.string (l.getD j zc).x)

theorem ints_form {w : World} {B : Nat} {v : Value} {l : List Pk} (h : Ints w B v l) : ∃ a cap, v = .slice a l.length cap ∧ Src w B a l := by
  obtain ⟨h1, h2⟩ := h
  rcases h2 with ⟨rfl, h2⟩ | ⟨g, cap, cur, rfl, hg, hh, hc1, hc2, hc3, hc4⟩
  · refine ⟨none, 0, by rw [h2], fun j hj => by omega⟩
  · refine ⟨_, cap, rfl, fun j hj => ⟨g, rfl, hg, lt_of_heap hh, ?_⟩⟩
    have hg0 : l[j]? = some (l.getD j zc) := by simp [hj]
    obtain ⟨c0, c1, c2, c3⟩ := cc_at l j _ hg0
    have ht : ∀ k, k < l.length * 4 → cur[k]? = (l.flatMap pk4)[k]? := fun k hk => by
      have : cur[k]? = (List.take (l.length * 4) cur.toList)[k]? := by rw [List.getElem?_take_of_lt hk]; simp
      rw [this, hc4]
    rw [cell_of hh, cell_of hh, cell_of hh, cell_of hh, ht _ (by omega), ht _ (by omega), ht _ (by omega), ht _ (by omega)]
    exact ⟨c0, c1, c2, c3⟩

theorem Src.keep {w w' : World} {B : Nat} {a : Option Addr} {l : List Pk} (h : Src w B a l) (hs : w.heap.size ≤ w'.heap.size) (hk : ∀ g, B ≤ g → g < w.heap.size → w'.heap[g]? = w.heap[g]?) : Src w' B a l := fun j hj => by
  obtain ⟨g, h1, h2, h3, h4, h5, h6, h7⟩ := h j hj
  exact ⟨g, h1, h2, by omega, by rw [World.cell?_of_block (hk g h2 h3)]; exact h4, by rw [World.cell?_of_block (hk g h2 h3)]; exact h5, by rw [World.cell?_of_block (hk g h2 h3)]; exact h6, by rw [World.cell?_of_block (hk g h2 h3)]; exact h7⟩

section
variable {w : World} {b pb m : Nat} {s : RingSt}

theorem RingAt.cell1 (h : RingAt w b pb m s) : ∃ a0, w.cell? ⟨b, 1, none⟩ = some (.slice a0 m m) := by
  obtain ⟨_, ⟨t, ht⟩, _⟩ := h
  rcases Nat.eq_zero_or_pos m with rfl | hm
  · exact ⟨none, by rw [cell_of ht]; rfl⟩
  · exact ⟨_, by rw [cell_of ht, pval_pos hm]; rfl⟩

theorem widen_no (h : RingAt w b pb m s) (hl : s.xs.length < m) :
    Calls Tryz.prog 97 #[.pointer (some ⟨b, 0, none⟩)] w fun e w' => e = .returned (.tuple #[]) ∧ ∃ n, w' = w.drewN n := by
  obtain ⟨a0, h1⟩ := h.cell1
  have L := fun n => ring_len (h.drewN n)
  obtain ⟨n, hn⟩ : ∃ n : Nat, n = s.xs.length := ⟨_, rfl⟩
  rw [← hn] at L hl
  clear hn h
  go_enter Tryz.func97, Tryz.ntmps97
  go_wp2
  go_quiet ((go_at_call 77; exact Calls.quiet_of (L _)))
  go_wp2
  exact bodyPost_ret (results_none rfl _ _ _) rfl ⟨rfl, _, rfl⟩

/-- The loop's relation: the new places, filled up to k. -/
def Filling (w0 : World) (b pb nb M : Nat) (t : TypeId) (s : RingSt) (a : Option Addr) (k : Nat) (wr : World) : Prop :=
  wr.heap[b]? = some (.cells #[.int .i64 s.room, .slice (some ⟨nb, 0, none⟩) M M, .int .u32 (s.i : Int), .int .u32 (s.o : Int), .bool false] t (0, 0)) ∧
  (∃ qs : List Pk, wr.heap[nb]? = some (.cells ⟨qs.flatMap pk4⟩ 61 (0, 0)) ∧ qs.length = M ∧ ∀ j, j < k → qs[(s.o + j) % M]? = s.xs[j]?) ∧
  Fr b pb w0 wr ∧ Src wr w0.heap.size a s.xs

theorem Filling.drewN {w0 wr : World} {b pb nb M : Nat} {t : TypeId} {s : RingSt} {a : Option Addr} {k : Nat} (h : Filling w0 b pb nb M t s a k wr) (n : Nat) : Filling w0 b pb nb M t s a k (wr.drewN n) := ⟨h.1, h.2.1, h.2.2.1.drewN n, h.2.2.2⟩

theorem Filling.alloc {w0 wr : World} {b pb nb M : Nat} {t : TypeId} {s : RingSt} {a : Option Addr} {k : Nat} (h : Filling w0 b pb nb M t s a k wr) (o : Obj) : Filling w0 b pb nb M t s a k (wr.alloc o) := by
  obtain ⟨h1, ⟨qs, h2, h3⟩, h4, h5⟩ := h
  refine ⟨?_, ⟨qs, ?_, h3⟩, h4.alloc o, h5.keep (by simp) fun g _ hg => Below.heap_alloc _ _ _ hg⟩
  · rw [Below.heap_alloc _ _ _ (lt_of_heap h1)]; exact h1
  · rw [Below.heap_alloc _ _ _ (lt_of_heap h2)]; exact h2
theorem made_zeros (n : Nat) : (madeCells #[Value.int .i64 0, Value.int .i64 0, Value.int .i64 0, Value.string ⟨#[]⟩] (n * 4)).toList = (List.replicate n zc).flatMap pk4 := by
  apply List.ext_getElem?
  intro j
  by_cases hj : j < n * 4
  · have e : j = j / 4 * 4 ∨ j = j / 4 * 4 + 1 ∨ j = j / 4 * 4 + 2 ∨ j = j / 4 * 4 + 3 := by omega
    have hg : (List.replicate n zc)[j / 4]? = some zc := by rw [List.getElem?_replicate, if_pos (by omega)]
    obtain ⟨c0, c1, c2, c3⟩ := cc_at _ _ _ hg
    have hm : (madeCells #[Value.int .i64 0, Value.int .i64 0, Value.int .i64 0, Value.string ⟨#[]⟩] (n * 4)).toList[j]? = some (if j % 4 = 3 then .string ⟨#[]⟩ else .int .i64 0) := by
      unfold madeCells
      rcases (by omega : j % 4 = 0 ∨ j % 4 = 1 ∨ j % 4 = 2 ∨ j % 4 = 3) with h | h | h | h <;> simp [hj, h]
    rw [hm]
    rcases e with e | e | e | e
    · rw [e, c0, if_neg (by omega)]; rfl
    · rw [e, c1, if_neg (by omega)]; rfl
    · rw [e, c2, if_neg (by omega)]; rfl
    · rw [e, c3, if_pos (by omega)]; rfl
  · rw [List.getElem?_eq_none (by simp [size_madeCells]; omega), List.getElem?_eq_none (by rw [cc_len]; simp; omega)]

theorem fill_start (h : RingAt w b pb m s) (hla : s.laid = false) {w1 w2 : World} (hbel : Below w.heap.size w w1) {a : Option Addr} (hS : Src w1 w.heap.size a s.xs) {M : Nat}
    (hown : w2.ownsRow w.heap.size 61 4 (.slice (some ⟨w1.heap.size, 0, none⟩) M M) M (madeCells #[Value.int .i64 0, Value.int .i64 0, Value.int .i64 0, Value.string ⟨#[]⟩] (M * 4)).toList) (hg : w1.grownBy w2 none) :
    ∃ t, Filling w b pb w1.heap.size M t s a 0 (w2.setCell ⟨b, 1, none⟩ (.slice (some ⟨w1.heap.size, 0, none⟩) M M)) := by
  obtain ⟨ok, ⟨t, ht⟩, h3⟩ := h
  have hb := lt_of_heap ht
  have s1 := hbel.size
  have s2 := hg.size
  have e1 : w1.heap[b]? = w.heap[b]? := hbel.block b hb
  have e2 : w2.heap[b]? = w1.heap[b]? := hg.block b (by omega) (by simp)
  refine ⟨t, ?_, ?_, ?_, ?_⟩
  · rw [heap_set (c := #[.int .i64 s.room, pval pb m, .int .u32 (s.i : Int), .int .u32 (s.o : Int), .bool s.laid]) (t := t) (fr := (0, 0)) (by rw [e2, e1]; exact ht)]
    simp [hla]
  · obtain ⟨_, h2⟩ := hown
    rcases h2 with ⟨h2, _⟩ | ⟨g, cap, cur, h4, hg', hh, hc1, hc2, hc3, hc4⟩
    · cases h2
    · simp only [Value.slice.injEq, Option.some.injEq, Addr.mk.injEq, and_true, true_and] at h4
      obtain ⟨rfl, rfl⟩ := h4
      refine ⟨List.replicate M zc, ?_, by simp, fun j hj => absurd hj (Nat.not_lt_zero j)⟩
      rw [heap_set_ne _ (by show w1.heap.size ≠ b; omega), hh]
      rw [List.take_of_length_le (by simp [hc3]), made_zeros] at hc4
      have : cur = ⟨(List.replicate M zc).flatMap pk4⟩ := by
        apply Array.toList_inj.1; rw [hc4]
      rw [this]
  · refine Fr.set0 ⟨hg.os.trans hbel.os, hg.tape.trans hbel.tape, hg.output.trans hbel.output, by omega, fun k hk _ _ => ?_⟩ _ _
    rw [hg.block k (by omega) (by simp), hbel.block k hk]
  · refine hS.keep (by simp; omega) fun g g1 g2 => ?_
    rw [heap_set_ne _ (by show g ≠ b; omega), hg.block g (by omega) (by simp)]

theorem fill_step {w0 wr : World} {nb M : Nat} {t : TypeId} {a : Option Addr} {k : Nat} (h : Filling w0 b pb nb M t s a k wr) (hk : k < s.xs.length) (hM : s.xs.length < M) (hnb : w0.heap.size ≤ nb)
    (hb : b < w0.heap.size) (hg : ∀ g, a = some ⟨g, 0, none⟩ → g ≠ nb) :
    Filling w0 b pb nb M t s a (k + 1) ((((wr.setCell ⟨nb, (s.o + k) % M * 4, none⟩ (.int .i64 (s.xs.getD k zc).s)).setCell ⟨nb, (s.o + k) % M * 4 + 1, none⟩ (.int .i64 (s.xs.getD k zc).d)).setCell ⟨nb, (s.o + k) % M * 4 + 2, none⟩ (.int .i64 (s.xs.getD k zc).q)).setCell ⟨nb, (s.o + k) % M * 4 + 3, none⟩ (.string (s.xs.getD k zc).x)) := by
  obtain ⟨h1, ⟨qs, h2, h3, h4⟩, h5, h6⟩ := h
  refine ⟨?_, ⟨qs.set ((s.o + k) % M) (s.xs.getD k zc), ?_, by simpa using h3, ?_⟩, ?_, ?_⟩
  · exact (heap_set2_ne _ _ (by omega)).trans h1
  · exact heap_set2 h2 _ _
  · intro j hj
    rcases Nat.lt_or_ge j k with c | c
    · rw [List.getElem?_set_ne]
      · exact h4 j c
      · intro d
        have := dist (m := M) (o := s.o) (j := k) (j' := j) (by omega) (by omega) d
        omega
    · obtain rfl : j = k := by omega
      rw [List.getElem?_set_self (by rw [h3]; exact Nat.mod_lt _ (by omega))]
      simp [hk]
  · exact (((h5.setCell (Or.inr (Or.inr hnb)) _).setCell (Or.inr (Or.inr hnb)) _).setCell (Or.inr (Or.inr hnb)) _).setCell (Or.inr (Or.inr hnb)) _
  · intro j hj
    obtain ⟨g, g1, g2, g3, g4, g5, g6, g7⟩ := h6 j hj
    refine ⟨g, g1, g2, by simpa using g3, ?_, ?_, ?_, ?_⟩
    · rw [World.cell?_of_block (heap_set2_ne _ _ (hg g g1))]
      exact g4
    · rw [World.cell?_of_block (heap_set2_ne _ _ (hg g g1))]
      exact g5
    · rw [World.cell?_of_block (heap_set2_ne _ _ (hg g g1))]
      exact g6
    · rw [World.cell?_of_block (heap_set2_ne _ _ (hg g g1))]
      exact g7

theorem fill_end {w0 wr : World} {nb M : Nat} {t : TypeId} {a : Option Addr} (h : Filling w0 b pb nb M t s a s.xs.length wr) (ok : RingOk s) (hla : s.laid = false) (hM : s.xs.length < M) (hM1 : ∃ k, M = 2 ^ k) (hM2 : M ≤ 4096) (hnb : b < nb) :
    RingAt wr b nb M s := by
  obtain ⟨h1, ⟨qs, h2, h3, h4⟩, h5, h6⟩ := h
  refine ⟨ok, ⟨t, ?_⟩, Or.inr ⟨qs, hM1, hM2, by omega, h2, h3, by rw [hla]; simp [one]; omega, h4, ?_⟩⟩
  · rw [pval_pos (by omega), hla]; exact h1
  · intro c; rw [hla] at c; cases c

theorem Filling.src {w0 wr : World} {nb M : Nat} {t : TypeId} {a : Option Addr} {k : Nat} (h : Filling w0 b pb nb M t s a k wr) : Src wr w0.heap.size a s.xs := h.2.2.2

set_option maxRecDepth 100000 in
set_option maxHeartbeats 16000000 in
theorem widen_yes (h : RingAt w b pb m s) (hl : m ≤ s.xs.length) (hla : s.laid = false) (hlt : (s.xs.length : Int) < min (max s.room 1) 4096) :
    Calls Tryz.prog 97 #[.pointer (some ⟨b, 0, none⟩)] w fun e w' => e = .returned (.tuple #[]) ∧ ∃ nb M, RingAt w' b nb M s ∧ s.xs.length < M ∧ w.heap.size ≤ nb ∧ Fr b pb w w' := by
  obtain ⟨i0, hi, hz0, hz1, hz2⟩ := info_parts Tryz.info61
  obtain ⟨a0, h1⟩ := h.cell1
  have hbb := h.lt
  have L := fun n => ring_len (h.drewN n)
  have A := fun n => ring_all (h.drewN n)
  have f1 : w.frozen? ⟨b, 1, none⟩ = false := by obtain ⟨_, ⟨t, ht⟩, _⟩ := h; exact frozen_of ht 1
  have hmn : m = s.xs.length := by
    rcases h.2.2 with ⟨e, _, e2, _⟩ | ⟨ps, _, _, _, _, _, e, _⟩
    · rw [e2] at hl ⊢; simp; omega
    · omega
  obtain ⟨n, hn⟩ : ∃ n : Nat, n = s.xs.length := ⟨_, rfl⟩
  rw [← hn] at L
  have HN : Hid (n = s.xs.length) := hn
  have hln : ¬ (n : Int) < m := by omega
  have hm3 : m < 4096 := by omega
  obtain ⟨B, hB⟩ : ∃ B, B = w.heap.size := ⟨_, rfl⟩
  simp only [World.heap_drewN] at A
  rw [← hB] at A ⊢
  have HB : Hid (B = w.heap.size) := hB
  have HM : Hid (m = n) := by rw [hn]; exact hmn
  clear hl hn hlt hB hmn
  have HH : Hid (RingAt w b pb m s) := h
  clear h
  rcases Nat.eq_zero_or_pos m with hm | hm
  · subst hm
    have hn0 : n = 0 := HM.out.symm
    subst hn0
    go_enter Tryz.func97, Tryz.ntmps97
    go_wp2
    go_quiet ((go_at_call 77; exact Calls.quiet_of (L _)))
    go_wp2_with fail
    go_at_call 105
    refine (A _).mono ?_
    rintro e w1 ⟨v, rfl, hI, hbel⟩
    obtain ⟨a, cap, rfl, hS⟩ := ints_form hI
    rw [← HN.out]
    have h1' : w1.cell? ⟨b, 1, none⟩ = some (.slice a0 0 0) := (hbel.cell (by have := HB.out; show b < B; omega)).trans h1
    have f1' : w1.frozen? ⟨b, 1, none⟩ = false := (hbel.frozen (by have := HB.out; show b < B; omega)).trans f1
    have hsz : B ≤ w1.heap.size := by have h7 : w.heap.size ≤ w1.heap.size := hbel.size; have := HB.out; omega
    clear hI
    go_wp2_with (at_make; refine wpList_make_full _ rfl _ _ 125 rfl B 61 i0 (.agg #[.int .i64 0, .int .i64 0, .int .i64 0, .string ⟨#[]⟩]) 4 Tryz.underlying125 hi hz0 hz1 _ _ _ _ 1 rfl rfl ?d1 ?d2 ?d3 ?d4 ?d5 ?_)
    case d1 => rfl
    case d2 => rfl
    case d3 => rw [hz2]; omega
    case d4 => unfold maxLen; omega
    case d5 => exact hsz
    · intro w2 hown2 hg2
      have h1'' : w2.cell? ⟨b, 1, none⟩ = some (.slice a0 0 0) := (World.cell?_of_block (hg2.block b (by have := HB.out; omega) (by simp))).trans h1'
      have f1'' : w2.frozen? ⟨b, 1, none⟩ = false := (World.frozen?_of_block (hg2.block b (by have := HB.out; omega) (by simp))).trans f1'
      have hst := fill_start HH.out hla (w1 := w1) (w2 := w2) (by rw [← HB.out]; exact ⟨hbel.os, hbel.tape, hbel.output, hbel.size, hbel.block⟩) (by rw [← HB.out]; exact hS) (by rw [← HB.out]; exact hown2) hg2
      obtain ⟨t, hst⟩ := hst
      obtain ⟨nb, hnb⟩ : ∃ nb, nb = w1.heap.size := ⟨_, rfl⟩
      rw [← hnb] at hst ⊢
      have hnb1 : w.heap.size ≤ nb := by have := HB.out; omega
      clear hown2 hg2 hS hbel h1' f1' hnb A L
      go_wp2
      refine wp_loop_rounds 1 ?_
      rw [rounds_succ]
      go_wp2
      have h0 : s.xs.length = 0 := HN.out.symm
      refine bodyPost_end (results_none rfl _ _ _) rfl ⟨rfl, nb, 1, ?_, by omega, by have := HB.out; omega, hst.2.2.1⟩
      exact fill_end (t := t) (a := a) (w0 := w) (pb := pb) (by rw [h0]; exact hst) HH.out.1 hla (by omega) ⟨0, rfl⟩ (by omega) (by omega)
  · have hm1 : (1 : Int) < 2 * (m : Int) := by omega
    go_enter Tryz.func97, Tryz.ntmps97
    go_wp2
    go_quiet ((go_at_call 77; exact Calls.quiet_of (L _)))
    go_wp2_with fail
    go_at_call 105
    refine (A _).mono ?_
    rintro e w1 ⟨v, rfl, hI, hbel⟩
    obtain ⟨a, cap, rfl, hS⟩ := ints_form hI
    have h1' : w1.cell? ⟨b, 1, none⟩ = some (.slice a0 m m) := (hbel.cell (by have := HB.out; show b < B; omega)).trans h1
    have f1' : w1.frozen? ⟨b, 1, none⟩ = false := (hbel.frozen (by have := HB.out; show b < B; omega)).trans f1
    have hsz : B ≤ w1.heap.size := by have h7 : w.heap.size ≤ w1.heap.size := hbel.size; have := HB.out; omega
    clear hI
    go_wp2_with (at_make; refine wpList_make_full _ rfl _ _ 125 rfl B 61 i0 (.agg #[.int .i64 0, .int .i64 0, .int .i64 0, .string ⟨#[]⟩]) 4 Tryz.underlying125 hi hz0 hz1 _ _ _ _ (2 * m) rfl rfl ?d1 ?d2 ?d3 ?d4 ?d5 ?_)
    case d1 => omega
    case d2 => omega
    case d3 => rw [hz2]; omega
    case d4 => unfold maxLen; omega
    case d5 => exact hsz
    · intro w2 hown2 hg2
      have h1'' : w2.cell? ⟨b, 1, none⟩ = some (.slice a0 m m) := (World.cell?_of_block (hg2.block b (by have := HB.out; omega) (by simp))).trans h1'
      have f1'' : w2.frozen? ⟨b, 1, none⟩ = false := (World.frozen?_of_block (hg2.block b (by have := HB.out; omega) (by simp))).trans f1'
      have hst := fill_start HH.out hla (w1 := w1) (w2 := w2) (by rw [← HB.out]; exact ⟨hbel.os, hbel.tape, hbel.output, hbel.size, hbel.block⟩) (by rw [← HB.out]; exact hS) (by rw [← HB.out]; exact hown2) hg2
      obtain ⟨t, hst⟩ := hst
      have hga : ∀ g, a = some ⟨g, 0, none⟩ → g ≠ w1.heap.size := fun g hg => by
        obtain ⟨g', e1, _, e3, _⟩ := hS 0 (by have := HN.out; have := HM.out; omega)
        rw [hg] at e1; simp at e1; omega
      obtain ⟨nb, hnb⟩ : ∃ nb, nb = w1.heap.size := ⟨_, rfl⟩
      rw [← hnb] at hst hga ⊢
      have hnb1 : w.heap.size ≤ nb := by have := HB.out; omega
      clear hown2 hg2 hS hbel h1' f1' hnb A L
      go_wp2
      have hM1 : (∃ k, 2 * m = 2 ^ k) ∧ 2 * m ≤ 4096 := by
        obtain ⟨ps, ⟨k, hk⟩, _⟩ := HH.out.filled hm
        have h12 : k < 12 := by
          rcases Nat.lt_or_ge k 12 with c | c
          · exact c
          · have := Nat.pow_le_pow_right (n := 2) (by omega) c; omega
        have := Nat.pow_le_pow_right (n := 2) (by omega) (show k + 1 ≤ 12 from h12)
        exact ⟨⟨k + 1, by rw [hk]; omega⟩, by omega⟩
      have HM1 : Hid ((∃ k, 2 * m = 2 ^ k) ∧ 2 * m ≤ 4096) := hM1
      have HGA : Hid (∀ g, a = some ⟨g, 0, none⟩ → g ≠ nb) := hga
      clear hM1 hga
      obtain ⟨l, hl⟩ : ∃ l : Nat, l = s.xs.length := ⟨_, rfl⟩
      rw [← hl]
      have HL : Hid (l = s.xs.length) := hl
      have hl4 : l ≤ 4096 := by have := HN.out; have := HM.out; omega
      clear hl
      obtain ⟨M, hMM⟩ : ∃ M, M = 2 * m := ⟨_, rfl⟩
      have HMM : Hid (M = 2 * m) := hMM
      rw [← hMM] at hst HM1 ⊢
      clear hMM
      go_loopw [28] (fun i wr => ∃ k : Nat, k ≤ l ∧ i = .int .i64 k ∧ Filling w b pb nb M t s a k wr) (fun i _ => l - (intOf i).toNat)
      case atStart => exact ⟨0, Nat.zero_le _, rfl, hst⟩
      case round =>
        clear hst h1'' f1''
        obtain ⟨k, hk, rfl, hF⟩ := hrel
        by_cases hlt : k < l
        · obtain ⟨g, rfl, g2, g3, g4, g5, g6, g7⟩ := hF.src k (by have := HL.out; omega)
          have c1 : wr.cell? ⟨b, 1, none⟩ = some (.slice (some ⟨nb, 0, none⟩) M M) := by rw [cell_of hF.1]; rfl
          have c3 : wr.cell? ⟨b, 3, none⟩ = some (.int .u32 s.o) := by rw [cell_of hF.1]; rfl
          have hlk : k < s.xs.length := by have := HL.out; omega
          have hlM : s.xs.length < M := by have := HMM.out; have := HN.out; have := HM.out; omega
          have hM0 : 0 < M := by omega
          obtain ⟨q, hq⟩ : ∃ q, q = (s.o + k) % M := ⟨_, rfl⟩
          obtain ⟨x, hx⟩ : ∃ x, x = s.xs.getD k zc := ⟨_, rfl⟩
          have HF2 : Hid (∀ V, Filling w b pb nb M t s (some ⟨g, 0, none⟩) k V → Filling w b pb nb M t s (some ⟨g, 0, none⟩) (k + 1) ((((V.setCell ⟨nb, q * 4, none⟩ (.int .i64 x.s)).setCell ⟨nb, q * 4 + 1, none⟩ (.int .i64 x.d)).setCell ⟨nb, q * 4 + 2, none⟩ (.int .i64 x.q)).setCell ⟨nb, q * 4 + 3, none⟩ (.string x.x))) := show _ from fun V hV => by
            rw [hq, hx]
            exact fill_step hV hlk hlM hnb1 hbb.1 (HGA.out)
          have c8 : q < M := by rw [hq]; exact Nat.mod_lt _ hM0
          have HC : Hid (∀ V, Filling w b pb nb M t s (some ⟨g, 0, none⟩) k V → V.cell? ⟨b, 3, none⟩ = some (.int .u32 s.o) ∧ (∃ y, V.cell? ⟨nb, q * 4, none⟩ = some y) ∧ (∃ y, V.cell? ⟨nb, q * 4 + 1, none⟩ = some y) ∧ (∃ y, V.cell? ⟨nb, q * 4 + 2, none⟩ = some y) ∧ (∃ y, V.cell? ⟨nb, q * 4 + 3, none⟩ = some y) ∧ V.frozen? ⟨nb, q * 4, none⟩ = false ∧ V.frozen? ⟨nb, q * 4 + 1, none⟩ = false ∧ V.frozen? ⟨nb, q * 4 + 2, none⟩ = false ∧ V.frozen? ⟨nb, q * 4 + 3, none⟩ = false) := show _ from fun V hV => by
            obtain ⟨h1, ⟨qs, h2, h3, _⟩, _⟩ := hV
            obtain ⟨z0, z1, z2, z3⟩ := cc_at qs q _ (List.getElem?_eq_getElem (by omega))
            exact ⟨by rw [cell_of h1]; rfl, ⟨_, (cell_of h2 _).trans (by simpa using z0)⟩, ⟨_, (cell_of h2 _).trans (by simpa using z1)⟩, ⟨_, (cell_of h2 _).trans (by simpa using z2)⟩, ⟨_, (cell_of h2 _).trans (by simpa using z3)⟩, frozen_of h2 _, frozen_of h2 _, frozen_of h2 _, frozen_of h2 _⟩
          have HP : Hid (∀ V, Filling w b pb nb M t s (some ⟨g, 0, none⟩) k V → Calls Tryz.prog 98 #[.pointer (some ⟨b, 0, none⟩), .int .u32 (IntKind.u32.wrap ((s.o : Int) + IntKind.u32.wrap (k : Int)))] V fun e w' => e = .returned (.pointer (some ⟨nb, q * 4, none⟩)) ∧ ∃ n', w' = V.drewN n') := show _ from fun V hV => by
            obtain ⟨⟨kk, hkk⟩, hkm⟩ := HM1.out
            have := place_any b nb M kk ((s.o + k) % 4294967296 : Nat) V (by omega) (by omega) hkk hkm (by rw [cell_of hV.1]; rfl)
            rw [toNat_mod, mod32 hkk hkm, ← hq] at this
            have e : (((s.o + k) % 4294967296 : Nat) : Int) = IntKind.u32.wrap ((s.o : Int) + IntKind.u32.wrap (k : Int)) := by
              simp only [IntKind.wrap, IntKind.bits, IntKind.signed]
              simp
            rw [e] at this
            exact this
          rw [← hx] at g4 g5 g6 g7
          have hk4 : k < 4096 := by omega
          have HF : Hid (Filling w b pb nb M t s (some ⟨g, 0, none⟩) k (wr.alloc (.cells (pk4 x).toArray 61))) := hF.alloc _
          have NB : Hid ((wr.alloc (.cells (pk4 x).toArray 61)).heap[wr.heap.size]? = some (.cells (pk4 x).toArray 61 (0, 0))) := heap_alloc_new wr _
          clear hx hq hlM c8 hlk hF hM0
          obtain ⟨xa, xb, xc, xd⟩ := x
          simp only at g4 g5 g6 g7 HF2
          go_upto_region 6 with fail
          generalize wr.alloc (.cells (pk4 ⟨xa, xb, xc, xd⟩).toArray 61) = v at *
          have SS : Hid (∀ n, (fun V : World => V.cell? ⟨b, 3, none⟩ = some (.int .u32 s.o) ∧ V.cell? ⟨wr.heap.size, 0, none⟩ = some (.int .i64 xa) ∧ V.cell? ⟨wr.heap.size, 1, none⟩ = some (.int .i64 xb) ∧ V.cell? ⟨wr.heap.size, 2, none⟩ = some (.int .i64 xc) ∧ V.cell? ⟨wr.heap.size, 3, none⟩ = some (.string xd)) (v.drewN n)) := show _ from fun n => ⟨(HC.out _ (HF.out.drewN n)).1, (cell_of NB.out 0).trans rfl, (cell_of NB.out 1).trans rfl, (cell_of NB.out 2).trans rfl, (cell_of NB.out 3).trans rfl⟩
          have S0 : (fun V : World => V.cell? ⟨b, 3, none⟩ = some (.int .u32 s.o) ∧ V.cell? ⟨wr.heap.size, 0, none⟩ = some (.int .i64 xa) ∧ V.cell? ⟨wr.heap.size, 1, none⟩ = some (.int .i64 xb) ∧ V.cell? ⟨wr.heap.size, 2, none⟩ = some (.int .i64 xc) ∧ V.cell? ⟨wr.heap.size, 3, none⟩ = some (.string xd)) v.drew := SS.out 1
          refine wp_region_G (fun V : World => V.cell? ⟨b, 3, none⟩ = some (.int .u32 s.o) ∧ V.cell? ⟨wr.heap.size, 0, none⟩ = some (.int .i64 xa) ∧ V.cell? ⟨wr.heap.size, 1, none⟩ = some (.int .i64 xb) ∧ V.cell? ⟨wr.heap.size, 2, none⟩ = some (.int .i64 xc) ∧ V.cell? ⟨wr.heap.size, 3, none⟩ = some (.string xd)) 11 (by kernel_rfl) ?_
          refine wpAnyG_take [11] (some 33) (i := 0) (v := ?v0) rfl rfl (by kernel_rfl) (by kernel_rfl) (by kernel_rfl) (by kernel_rfl) (fun _ _ _ h => h) (Or.inl ⟨by rfl, ?y0⟩) S0 ?r0
          case y0 => (intro V hSV; obtain ⟨d0, d1, d2, d3, d4⟩ := hSV; go_simp; try with_reducible rfl)
          simp only [Act.put, List.setIfInBounds_toArray, List.set_cons_zero, List.set_cons_succ]
          refine wpAnyG_take [11] (some 34) (i := 1) (v := ?v1) rfl rfl (by kernel_rfl) (by kernel_rfl) (by kernel_rfl) (by kernel_rfl) (fun _ _ _ h => h) (Or.inl ⟨by rfl, ?y1⟩) S0 ?r1
          case y1 => (intro V hSV; obtain ⟨d0, d1, d2, d3, d4⟩ := hSV; go_simp; try with_reducible rfl)
          simp only [Act.put, List.setIfInBounds_toArray, List.set_cons_zero, List.set_cons_succ]
          refine wpAnyG_take [11] (some 35) (i := 2) (v := ?v2) rfl rfl (by kernel_rfl) (by kernel_rfl) (by kernel_rfl) (by kernel_rfl) (fun _ _ _ h => h) (Or.inl ⟨by rfl, ?y2⟩) S0 ?r2
          case y2 => (intro V hSV; obtain ⟨d0, d1, d2, d3, d4⟩ := hSV; go_simp; try with_reducible rfl)
          simp only [Act.put, List.setIfInBounds_toArray, List.set_cons_zero, List.set_cons_succ]
          refine wpAnyG_take [11] (some 36) (i := 3) (v := ?v3) rfl rfl (by kernel_rfl) (by kernel_rfl) (by kernel_rfl) (by kernel_rfl) (fun _ _ _ h => h) (Or.inl ⟨by rfl, ?y3⟩) S0 ?r3
          case y3 => (intro V hSV; obtain ⟨d0, d1, d2, d3, d4⟩ := hSV; go_simp; try with_reducible rfl)
          simp only [Act.put, List.setIfInBounds_toArray, List.set_cons_zero, List.set_cons_succ]
          refine wpAnyG_take [11] (some 37) (i := 4) (v := ?v4) rfl rfl (by kernel_rfl) (by kernel_rfl) (by kernel_rfl) (by kernel_rfl) (fun _ _ _ h => h) (Or.inl ⟨by rfl, ?y4⟩) S0 ?r4
          case y4 => (intro V hSV; obtain ⟨d0, d1, d2, d3, d4⟩ := hSV; go_simp; try with_reducible rfl)
          simp only [Act.put, List.setIfInBounds_toArray, List.set_cons_zero, List.set_cons_succ]
          refine wpAnyG_take [11] (some 38) (i := 5) (v := ?v5) rfl rfl (by kernel_rfl) (by kernel_rfl) (by kernel_rfl) (by kernel_rfl) (fun _ _ _ h => h) (Or.inl ⟨by rfl, ?y5⟩) S0 ?r5
          case y5 => (intro V hSV; obtain ⟨d0, d1, d2, d3, d4⟩ := hSV; go_simp; try with_reducible rfl)
          simp only [Act.put, List.setIfInBounds_toArray, List.set_cons_zero, List.set_cons_succ]
          refine wpAnyG_take [11] (some 39) (i := 6) (v := ?v6) rfl rfl (by kernel_rfl) (by kernel_rfl) (by kernel_rfl) (by kernel_rfl) (fun _ _ _ h => h) (Or.inl ⟨by rfl, ?y6⟩) S0 ?r6
          case y6 => (intro V hSV; obtain ⟨d0, d1, d2, d3, d4⟩ := hSV; go_simp; try with_reducible rfl)
          simp only [Act.put, List.setIfInBounds_toArray, List.set_cons_zero, List.set_cons_succ]
          refine wpAnyG_take [11] (some 40) (i := 7) (v := ?v7) rfl rfl (by kernel_rfl) (by kernel_rfl) (by kernel_rfl) (by kernel_rfl) (fun _ _ _ h => h) (Or.inl ⟨by rfl, ?y7⟩) S0 ?r7
          case y7 => (intro V hSV; obtain ⟨d0, d1, d2, d3, d4⟩ := hSV; go_simp; try with_reducible rfl)
          simp only [Act.put, List.setIfInBounds_toArray, List.set_cons_zero, List.set_cons_succ]
          refine wpAnyG_take [11] (some 42) (i := 9) (v := ?v9) rfl rfl (by kernel_rfl) (by kernel_rfl) (by kernel_rfl) (by kernel_rfl) (fun _ _ _ h => h) (Or.inl ⟨by rfl, ?y9⟩) S0 ?r9
          case y9 => (intro V hSV; obtain ⟨d0, d1, d2, d3, d4⟩ := hSV; go_simp; try with_reducible rfl)
          simp only [Act.put, List.setIfInBounds_toArray, List.set_cons_zero, List.set_cons_succ]
          refine wpAnyG_one (i := 8) (by kernel_rfl) rfl (fun K hK => ?_)
          go_simp
          have FD : Filling w b pb nb M t s (some ⟨g, 0, none⟩) k v.drew := HF.out.drewN 1
          with_reducible refine (HP.out v.drew FD).mono ?_
          rintro e w' ⟨rfl, n2, rfl⟩
          have F2 : Hid (Filling w b pb nb M t s (some ⟨g, 0, none⟩) k (v.drew.drewN n2)) := FD.drewN n2
          have S2 : (fun V : World => V.cell? ⟨b, 3, none⟩ = some (.int .u32 s.o) ∧ V.cell? ⟨wr.heap.size, 0, none⟩ = some (.int .i64 xa) ∧ V.cell? ⟨wr.heap.size, 1, none⟩ = some (.int .i64 xb) ∧ V.cell? ⟨wr.heap.size, 2, none⟩ = some (.int .i64 xc) ∧ V.cell? ⟨wr.heap.size, 3, none⟩ = some (.string xd)) (v.drew.drewN n2) := ⟨(HC.out _ F2.out).1, (cell_of NB.out 0).trans rfl, (cell_of NB.out 1).trans rfl, (cell_of NB.out 2).trans rfl, (cell_of NB.out 3).trans rfl⟩
          refine hK.out _ _ (Or.inr S2) ?_
          clear hK K S0 SS
          generalize v.drew.drewN n2 = u at *
          refine wpAnyG_one (i := 10) (by kernel_rfl) rfl (fun K hK => ?_)
          go_simp
          refine hK.out _ _ (Or.inr S2) ?_
          clear hK K
          obtain ⟨-, ⟨y0, g0⟩, ⟨y1, g1⟩, ⟨y2, e2⟩, ⟨y3, e3⟩, f0, f1, f2, f3⟩ := HC.out u F2.out
          have hF2 := HF2.out u F2.out
          refine wpAnyG_one (i := 11) (by kernel_rfl) rfl (fun K hK => ?_)
          go_simp
          refine hK.out _ _ (Or.inl (by kernel_rfl)) ?_
          clear hK K S2
          refine wpAnyG_done (by kernel_rfl) ?_ _
          go_wp2
          go_roundw
          case rel => exact ⟨k + 1, by omega, by go_num, hF2⟩
          case measure => simp [intOf]; omega
        · go_wp2
          obtain rfl : k = l := by omega
          refine bodyPost_end (results_none rfl _ _ _) rfl ⟨rfl, nb, M, ?_, ?_, by have := HB.out; omega, hF.2.2.1⟩
          · have h7 := HL.out
            subst h7
            exact fill_end hF HH.out.1 hla (by have := HMM.out; have := HN.out; have := HM.out; omega) HM1.out.1 HM1.out.2 (by have := HB.out; omega)
          · have := HMM.out; have := HN.out; have := HM.out; omega

end
end Go.Proofs.YtoejpngdkcnnhaaGreat.I.RP

namespace Go.Proofs.YtoejpngdkcnnhaaGreat.I.RP
open Go.RowKit

/-- The ring at b is s' now; only its own blocks have turned. -/
def Stp (b pb : Nat) (w w' : World) (s' : RingSt) : Prop := ∃ pb' m', RingAt w' b pb' m' s' ∧ Fr b pb w w' ∧ (pb' = pb ∨ w.heap.size ≤ pb')

theorem Stp.drewN {b pb : Nat} {w w' : World} {s' : RingSt} (h : Stp b pb w w' s') (n : Nat) : Stp b pb w (w'.drewN n) s' := by
  obtain ⟨p, m, h1, h2, h3⟩ := h
  exact ⟨p, m, h1, h2.drewN n, h3⟩

section
variable {w : World} {b pb m : Nat} {s : RingSt}

theorem Stp.ofDrew (h : RingAt w b pb m s) (n : Nat) : Stp b pb w (w.drewN n) s := ⟨pb, m, h, (Fr.refl _ _ _).drewN n, Or.inl rfl⟩
theorem Stp.ofSame (h : RingAt w b pb m s) : Stp b pb w w s := ⟨pb, m, h, Fr.refl _ _ _, Or.inl rfl⟩

/-- widen: there is a place more. -/
theorem ring_widen (h : RingAt w b pb m s) (hla : s.laid = false) (hlt : (s.xs.length : Int) < min (max s.room 1) 4096) :
    Calls Tryz.prog 97 #[.pointer (some ⟨b, 0, none⟩)] w fun e w' => e = .returned (.tuple #[]) ∧ ∃ nb M, RingAt w' b nb M s ∧ s.xs.length < M ∧ (nb = pb ∨ w.heap.size ≤ nb) ∧ Fr b pb w w' := by
  rcases Nat.lt_or_ge s.xs.length m with c | c
  · refine (widen_no h c).mono ?_
    rintro e w' ⟨rfl, n, rfl⟩
    exact ⟨rfl, pb, m, h, c, Or.inl rfl, (Fr.refl _ _ _).drewN n⟩
  · refine (widen_yes h c hla hlt).mono ?_
    rintro e w' ⟨rfl, nb, M, h1, h2, h3, h4⟩
    exact ⟨rfl, nb, M, h1, h2, Or.inr h3, h4⟩

theorem Stp.ofBelow {w' : World} (h : RingAt w b pb m s) (hb : Below w.heap.size w w') : Stp b pb w w' s := ⟨pb, m, h.next hb, Fr.ofBelow hb (Nat.le_refl _), Or.inl rfl⟩
theorem box_below (w : World) (o : Obj) : Below w.heap.size w (w.alloc o) := (Below.refl _ _).alloc (Nat.le_refl _) o
theorem lay_laid (h : RingAt w b pb m s) (hla : s.laid = true) (v : Pk) :
    Calls Tryz.prog 79 #[.pointer (some ⟨b, 0, none⟩), pkv v] w fun e w' => e = .returned (.int .i64 13) ∧ Below w.heap.size w w' := by
  have B0 : Hid (Below w.heap.size w (w.alloc (.cells (pk4 v).toArray 61))) := box_below _ _
  have h4 : (w.alloc (.cells (pk4 v).toArray 61)).cell? ⟨b, 4, none⟩ = some (.bool true) := by obtain ⟨_, ⟨t, ht⟩, _⟩ := h.next B0.out; rw [cell_of ht, hla]; rfl
  clear h hla
  obtain ⟨va, vb, vc, vd⟩ := v
  go_enter Tryz.func79, Tryz.ntmps79
  go_wp2
  go_ret
  exact ⟨rfl, B0.out⟩

theorem lay_full (h : RingAt w b pb m s) (hla : s.laid = false) (hf : s.free = 0) (v : Pk) :
    Calls Tryz.prog 79 #[.pointer (some ⟨b, 0, none⟩), pkv v] w fun e w' => e = .returned (.int .i64 7) ∧ Below w.heap.size w w' := by
  have B0 : Hid (Below w.heap.size w (w.alloc (.cells (pk4 v).toArray 61))) := box_below _ _
  have h4 : (w.alloc (.cells (pk4 v).toArray 61)).cell? ⟨b, 4, none⟩ = some (.bool false) := by obtain ⟨_, ⟨t, ht⟩, _⟩ := h.next B0.out; rw [cell_of ht, hla]; rfl
  have R := ring_room (h.next B0.out)
  rw [hf] at R
  clear h hla hf
  obtain ⟨va, vb, vc, vd⟩ := v
  go_enter Tryz.func79, Tryz.ntmps79
  go_wp2_with (go_at_call 62; refine R.mono ?_; rintro e w' ⟨rfl, n, rfl⟩)
  go_ret
  exact ⟨rfl, below_dn B0.out _⟩

def RingSt.lay (s : RingSt) (v : Pk) : RingSt := { s with laid := true, lv := v }

theorem at_laid (h : RingAt w b pb m s) (_hla : s.laid = false) (hlt : (s.xs.length : Int) < min (max s.room 1) 4096) (hm : s.xs.length < m) (v : Pk) :
    RingAt (((((w.setCell ⟨pb, s.i % m * 4, none⟩ (.int .i64 v.s)).setCell ⟨pb, s.i % m * 4 + 1, none⟩ (.int .i64 v.d)).setCell ⟨pb, s.i % m * 4 + 2, none⟩ (.int .i64 v.q)).setCell ⟨pb, s.i % m * 4 + 3, none⟩ (.string v.x)).setCell ⟨b, 4, none⟩ (.bool true)) b pb m (s.lay v) := by
  obtain ⟨ps, ⟨k, hk⟩, hm2, hne, hp, hpl, hcap, hxs, hlv⟩ := h.filled (by omega)
  obtain ⟨ok, ⟨t, ht⟩, h3⟩ := h
  obtain ⟨o1, o2, o3, o4⟩ := ok
  refine ⟨⟨o1, o2, o3, ?_⟩, ⟨t, ?_⟩, Or.inr ⟨ps.set (s.i % m) v, ⟨k, hk⟩, hm2, hne, ?_, by simpa using hpl, ?_, ?_, ?_⟩⟩
  · simp [RingSt.lay, one]; omega
  · refine (heap_set (c := #[.int .i64 s.room, pval pb m, .int .u32 (s.i : Int), .int .u32 (s.o : Int), .bool s.laid]) (t := t) (fr := (0, 0)) ((heap_set2_ne (s.i % m) v hne.symm).trans ht) 4 _).trans ?_
    simp [RingSt.lay]
  · rw [heap_set_ne _ hne]
    exact heap_set2 hp (s.i % m) v
  · simp [RingSt.lay, one]; omega
  · intro j hj
    have hj' : j < s.xs.length := hj
    show (ps.set (s.i % m) v)[(s.o + j) % m]? = s.xs[j]?
    rw [List.getElem?_set_ne]
    · exact hxs j hj'
    · intro d
      rw [← o3, mod32 hk hm2] at d
      have := dist (m := m) (o := s.o) (j := s.xs.length) (j' := j) hm (by omega) d
      omega
  · intro _
    show (ps.set (s.i % m) v)[s.i % m]? = some v
    rw [List.getElem?_set_self]
    rw [hpl]; exact Nat.mod_lt _ (by omega)

set_option maxHeartbeats 4000000 in
theorem lay_ok (h : RingAt w b pb m s) (hla : s.laid = false) (hlt : (s.xs.length : Int) < min (max s.room 1) 4096) (v : Pk) :
    Calls Tryz.prog 79 #[.pointer (some ⟨b, 0, none⟩), pkv v] w fun e w' => e = .returned (.int .i64 0) ∧ Stp b pb w w' (s.lay v) := by
  have B0 : Hid (Below w.heap.size w (w.alloc (.cells (pk4 v).toArray 61))) := box_below _ _
  have NB : Hid ((w.alloc (.cells (pk4 v).toArray 61)).heap[w.heap.size]? = some (.cells (pk4 v).toArray 61 (0, 0))) := heap_alloc_new w _
  have H0 := h.next B0.out
  have h4 : (w.alloc (.cells (pk4 v).toArray 61)).cell? ⟨b, 4, none⟩ = some (.bool false) := by obtain ⟨_, ⟨t, ht⟩, _⟩ := H0; rw [cell_of ht, hla]; rfl
  have R := ring_room H0
  have hfr : ¬ s.free = 0 := by rw [RingSt.free, hla, one]; simp; omega
  have W := fun n => ring_widen (H0.drewN n) hla hlt
  have hbw := h.lt
  obtain ⟨f, hf⟩ : ∃ f, f = s.free := ⟨_, rfl⟩
  rw [← hf] at R hfr
  have hfr2 : (f == 0) = false := by simpa using hfr
  have HLA : Hid (s.laid = false) := hla
  have HLT : Hid ((s.xs.length : Int) < min (max s.room 1) 4096) := hlt
  clear h H0 hla hlt hf hfr
  go_enter Tryz.func79, Tryz.ntmps79
  go_upto_region 1 with fail
  generalize hv0 : (w.alloc (.cells (pk4 v).toArray 61)) = v0 at *
  clear hv0
  go_wp2_with (go_at_call 62; refine R.mono ?_; rintro e w' ⟨rfl, n, rfl⟩)
  go_at_call 97
  refine (W _).mono ?_
  rintro e w1 ⟨rfl, nb, M, hR, hM, hnb, hF⟩
  have HR1 : Hid (RingAt w1 b nb M s) := hR
  have hM0 : 0 < M := by omega
  have hsz0 : w.heap.size < v0.heap.size := lt_of_heap NB.out
  have N1 : Hid (w1.heap[w.heap.size]? = some (.cells (pk4 v).toArray 61 (0, 0))) := show _ from by
    rw [hF.block w.heap.size (by simpa using hsz0) (by omega) (by omega)]
    exact NB.out
  have HFR : Hid (Fr b pb w w1) := show _ from by
    have : Fr b pb v0 w1 := ⟨hF.os, hF.tape, hF.output, hF.size, hF.block⟩
    exact (Fr.ofBelow B0.out (Nat.le_refl _) : Fr b pb w v0).trans this (Or.inl rfl)
  have HNB : Hid (nb = pb ∨ w.heap.size ≤ nb) := show _ from by
    rcases hnb with h | h
    · exact Or.inl h
    · exact Or.inr (by simp at h; omega)
  have HC : Hid (∀ V, RingAt V b nb M s → V.cell? ⟨b, 2, none⟩ = some (.int .u32 s.i) ∧ (∃ y, V.cell? ⟨b, 4, none⟩ = some y) ∧ V.frozen? ⟨b, 4, none⟩ = false ∧ (∃ y, V.cell? ⟨nb, s.i % M * 4, none⟩ = some y) ∧ (∃ y, V.cell? ⟨nb, s.i % M * 4 + 1, none⟩ = some y) ∧ (∃ y, V.cell? ⟨nb, s.i % M * 4 + 2, none⟩ = some y) ∧ (∃ y, V.cell? ⟨nb, s.i % M * 4 + 3, none⟩ = some y) ∧ V.frozen? ⟨nb, s.i % M * 4, none⟩ = false ∧ V.frozen? ⟨nb, s.i % M * 4 + 1, none⟩ = false ∧ V.frozen? ⟨nb, s.i % M * 4 + 2, none⟩ = false ∧ V.frozen? ⟨nb, s.i % M * 4 + 3, none⟩ = false) := show _ from fun V hV => by
    obtain ⟨ps, hf⟩ := hV.filled hM0
    obtain ⟨hc0, hc1, hc2, hc3⟩ := hf.cell (q := s.i % M) (v := ps[s.i % M]'(by rw [hf.2.2.2.2.1]; exact Nat.mod_lt _ hM0)) (List.getElem?_eq_getElem _)
    obtain ⟨_, ⟨t, ht⟩, _⟩ := hV
    exact ⟨by rw [cell_of ht]; rfl, ⟨_, by rw [cell_of ht]; rfl⟩, frozen_of ht 4, ⟨_, hc0⟩, ⟨_, hc1⟩, ⟨_, hc2⟩, ⟨_, hc3⟩, frozen_of hf.2.2.2.1 _, frozen_of hf.2.2.2.1 _, frozen_of hf.2.2.2.1 _, frozen_of hf.2.2.2.1 _⟩
  have hne : nb ≠ b := by
    obtain ⟨ps, hf⟩ := hR.filled hM0
    exact hf.2.2.1
  have HP : Hid (∀ V, RingAt V b nb M s → Calls Tryz.prog 98 #[.pointer (some ⟨b, 0, none⟩), .int .u32 s.i] V fun e w' => e = .returned (.pointer (some ⟨nb, s.i % M * 4, none⟩)) ∧ ∃ n, w' = V.drewN n) := show _ from fun V hV => ring_place hV hM0 s.i hR.1.hi
  have HAL : Hid (∀ V, RingAt V b nb M s → RingAt (((((V.setCell ⟨nb, s.i % M * 4, none⟩ (.int .i64 v.s)).setCell ⟨nb, s.i % M * 4 + 1, none⟩ (.int .i64 v.d)).setCell ⟨nb, s.i % M * 4 + 2, none⟩ (.int .i64 v.q)).setCell ⟨nb, s.i % M * 4 + 3, none⟩ (.string v.x)).setCell ⟨b, 4, none⟩ (.bool true)) b nb M (s.lay v)) := show _ from fun V hV => at_laid hV HLA.out HLT.out hM v
  obtain ⟨q, hq⟩ : ∃ q, s.i % M * 4 = q := ⟨_, rfl⟩
  rw [hq] at HC HP HAL
  clear R W hF hR hnb hq hM hM0 h4
  obtain ⟨va, vb, vc, vd⟩ := v
  simp only at HAL N1
  generalize hsl : s.lay ⟨va, vb, vc, vd⟩ = sl at *
  have HSL : Hid (s.lay ⟨va, vb, vc, vd⟩ = sl) := hsl
  clear hsl
  generalize (s.i : Int) = si at *
  go_upto_region 8 with fail
  have SS : Hid (∀ n, (fun V : World => V.cell? ⟨b, 2, none⟩ = some (.int .u32 si) ∧ V.cell? ⟨w.heap.size, 0, none⟩ = some (.int .i64 va) ∧ V.cell? ⟨w.heap.size, 1, none⟩ = some (.int .i64 vb) ∧ V.cell? ⟨w.heap.size, 2, none⟩ = some (.int .i64 vc) ∧ V.cell? ⟨w.heap.size, 3, none⟩ = some (.string vd)) (w1.drewN n)) := show _ from fun n => ⟨(HC.out _ (HR1.out.drewN n)).1, (cell_of N1.out 0).trans rfl, (cell_of N1.out 1).trans rfl, (cell_of N1.out 2).trans rfl, (cell_of N1.out 3).trans rfl⟩
  have S0 : (fun V : World => V.cell? ⟨b, 2, none⟩ = some (.int .u32 si) ∧ V.cell? ⟨w.heap.size, 0, none⟩ = some (.int .i64 va) ∧ V.cell? ⟨w.heap.size, 1, none⟩ = some (.int .i64 vb) ∧ V.cell? ⟨w.heap.size, 2, none⟩ = some (.int .i64 vc) ∧ V.cell? ⟨w.heap.size, 3, none⟩ = some (.string vd)) w1.drew := SS.out 1
  refine wp_region_G (fun V : World => V.cell? ⟨b, 2, none⟩ = some (.int .u32 si) ∧ V.cell? ⟨w.heap.size, 0, none⟩ = some (.int .i64 va) ∧ V.cell? ⟨w.heap.size, 1, none⟩ = some (.int .i64 vb) ∧ V.cell? ⟨w.heap.size, 2, none⟩ = some (.int .i64 vc) ∧ V.cell? ⟨w.heap.size, 3, none⟩ = some (.string vd)) 8 (by kernel_rfl) ?_
  refine wpAnyG_take [8] (some 19) (i := 0) (v := ?v0) rfl rfl (by kernel_rfl) (by kernel_rfl) (by kernel_rfl) (by kernel_rfl) (fun _ _ _ h => h) (Or.inl ⟨by rfl, ?y0⟩) S0 ?r0
  case y0 => (intro V hSV; obtain ⟨d0, d1, d2, d3, d4⟩ := hSV; go_simp; try with_reducible rfl)
  simp only [Act.put, List.setIfInBounds_toArray, List.set_cons_zero, List.set_cons_succ]
  refine wpAnyG_take [8] (some 20) (i := 1) (v := ?v1) rfl rfl (by kernel_rfl) (by kernel_rfl) (by kernel_rfl) (by kernel_rfl) (fun _ _ _ h => h) (Or.inl ⟨by rfl, ?y1⟩) S0 ?r1
  case y1 => (intro V hSV; obtain ⟨d0, d1, d2, d3, d4⟩ := hSV; go_simp; try with_reducible rfl)
  simp only [Act.put, List.setIfInBounds_toArray, List.set_cons_zero, List.set_cons_succ]
  refine wpAnyG_take [8] (some 21) (i := 2) (v := ?v2) rfl rfl (by kernel_rfl) (by kernel_rfl) (by kernel_rfl) (by kernel_rfl) (fun _ _ _ h => h) (Or.inl ⟨by rfl, ?y2⟩) S0 ?r2
  case y2 => (intro V hSV; obtain ⟨d0, d1, d2, d3, d4⟩ := hSV; go_simp; try with_reducible rfl)
  simp only [Act.put, List.setIfInBounds_toArray, List.set_cons_zero, List.set_cons_succ]
  refine wpAnyG_take [8] (some 22) (i := 3) (v := ?v3) rfl rfl (by kernel_rfl) (by kernel_rfl) (by kernel_rfl) (by kernel_rfl) (fun _ _ _ h => h) (Or.inl ⟨by rfl, ?y3⟩) S0 ?r3
  case y3 => (intro V hSV; obtain ⟨d0, d1, d2, d3, d4⟩ := hSV; go_simp; try with_reducible rfl)
  simp only [Act.put, List.setIfInBounds_toArray, List.set_cons_zero, List.set_cons_succ]
  refine wpAnyG_take [8] (some 23) (i := 4) (v := ?v4) rfl rfl (by kernel_rfl) (by kernel_rfl) (by kernel_rfl) (by kernel_rfl) (fun _ _ _ h => h) (Or.inl ⟨by rfl, ?y4⟩) S0 ?r4
  case y4 => (intro V hSV; obtain ⟨d0, d1, d2, d3, d4⟩ := hSV; go_simp; try with_reducible rfl)
  simp only [Act.put, List.setIfInBounds_toArray, List.set_cons_zero, List.set_cons_succ]
  refine wpAnyG_take [8] (some 25) (i := 6) (v := ?v6) rfl rfl (by kernel_rfl) (by kernel_rfl) (by kernel_rfl) (by kernel_rfl) (fun _ _ _ h => h) (Or.inl ⟨by rfl, ?y6⟩) S0 ?r6
  case y6 => (intro V hSV; obtain ⟨d0, d1, d2, d3, d4⟩ := hSV; go_simp; try with_reducible rfl)
  simp only [Act.put, List.setIfInBounds_toArray, List.set_cons_zero, List.set_cons_succ]
  have FD : RingAt w1.drew b nb M s := HR1.out.drewN 1
  refine wpAnyG_one (i := 5) (by kernel_rfl) rfl (fun K hK => ?_)
  go_simp
  with_reducible refine (HP.out w1.drew FD).mono ?_
  rintro e w' ⟨rfl, n2, rfl⟩
  have F2 : Hid (RingAt (w1.drew.drewN n2) b nb M s) := FD.drewN n2
  have S2 : (fun V : World => V.cell? ⟨b, 2, none⟩ = some (.int .u32 si) ∧ V.cell? ⟨w.heap.size, 0, none⟩ = some (.int .i64 va) ∧ V.cell? ⟨w.heap.size, 1, none⟩ = some (.int .i64 vb) ∧ V.cell? ⟨w.heap.size, 2, none⟩ = some (.int .i64 vc) ∧ V.cell? ⟨w.heap.size, 3, none⟩ = some (.string vd)) (w1.drew.drewN n2) := ⟨(HC.out _ F2.out).1, (cell_of N1.out 0).trans rfl, (cell_of N1.out 1).trans rfl, (cell_of N1.out 2).trans rfl, (cell_of N1.out 3).trans rfl⟩
  refine hK.out _ _ (Or.inr S2) ?_
  clear hK K S0 SS
  have HF2 : Hid (Fr b pb w (w1.drew.drewN n2)) := (HFR.out.drewN 1).drewN n2
  generalize w1.drew.drewN n2 = u at *
  refine wpAnyG_one (i := 7) (by kernel_rfl) rfl (fun K hK => ?_)
  go_simp
  refine hK.out _ _ (Or.inr S2) ?_
  clear hK K
  obtain ⟨-, ⟨y4, g4⟩, f4, ⟨y0, g0⟩, ⟨y1, g1⟩, ⟨y2, g2⟩, ⟨y3, g3⟩, f0, f1, f2, f3⟩ := HC.out u F2.out
  refine wpAnyG_one (i := 8) (by kernel_rfl) rfl (fun K hK => ?_)
  go_simp
  refine hK.out _ _ (Or.inl (by kernel_rfl)) ?_
  clear hK K S2
  refine wpAnyG_done (by kernel_rfl) ?_ _
  go_wp2
  go_ret
  refine ⟨rfl, nb, M, by rw [HSL.out]; exact HAL.out u F2.out, ?_, HNB.out⟩
  exact ((((HF2.out.setCell (by have := HNB.out; exact Or.inr this) _).setCell (by have := HNB.out; exact Or.inr this) _).setCell (by have := HNB.out; exact Or.inr this) _).setCell (by have := HNB.out; exact Or.inr this) _).set0 _ _

end
end Go.Proofs.YtoejpngdkcnnhaaGreat.I.RP

namespace Go.Proofs.YtoejpngdkcnnhaaGreat.I.RP
open Go.RowKit

def layE (s : RingSt) : Int := if s.laid then 13 else if s.free = 0 then 7 else 0
def layS (s : RingSt) (v : Pk) : RingSt := if layE s = 0 then s.lay v else s
def pubE (s : RingSt) : Int := if s.laid then 0 else 13
def pubS (s : RingSt) : RingSt := if s.laid then s.published else s
def pushS (s : RingSt) (v : Pk) : RingSt := if layE s = 0 then (s.lay v).published else s
def peekV (s : RingSt) : Pk := s.xs.headD zc
def peekE (s : RingSt) : Int := if s.xs = [] then 8 else 0
def freeS (s : RingSt) : RingSt := if s.xs = [] then s else s.freed

theorem Fr.grown {b pb : Nat} {x y z : World} {row : Option Nat} (h : Fr b pb x y) (hg : y.grownBy z row) (hr : ∀ k, row = some k → x.heap.size ≤ k) : Fr b pb x z :=
  ⟨hg.os.trans h.os, hg.tape.trans h.tape, hg.output.trans h.output, Nat.le_trans h.size hg.size, fun k hk h1 h2 => by
    have := h.size
    rw [hg.block k (by omega) (fun e => by have := hr k e.symm; omega), h.block k hk h1 h2]⟩

section
variable {w : World} {b pb m : Nat} {s : RingSt}

theorem free_pos (h : RingAt w b pb m s) (hla : s.laid = false) (hf : ¬ s.free = 0) : (s.xs.length : Int) < min (max s.room 1) 4096 := by
  have := h.1.hcap
  rw [RingSt.free] at hf
  rw [hla] at this hf
  simp only [one] at this hf
  simp at this hf
  omega

theorem ring_lay (h : RingAt w b pb m s) (v : Pk) :
    Calls Tryz.prog 79 #[.pointer (some ⟨b, 0, none⟩), pkv v] w fun e w' => e = .returned (.int .i64 (layE s)) ∧ Stp b pb w w' (layS s v) := by
  cases hla : s.laid
  · by_cases hf : s.free = 0
    · have e1 : layE s = 7 := by simp [layE, hla, hf]
      have e2 : layS s v = s := by simp [layS, e1]
      refine (lay_full h hla hf v).mono ?_
      rintro e w' ⟨rfl, hb⟩
      rw [e1, e2]
      exact ⟨rfl, Stp.ofBelow h hb⟩
    · have e1 : layE s = 0 := by simp [layE, hla, hf]
      have e2 : layS s v = s.lay v := by simp [layS, e1]
      refine (lay_ok h hla (free_pos h hla hf) v).mono ?_
      rintro e w' ⟨rfl, h2⟩
      rw [e1, e2]
      exact ⟨rfl, h2⟩
  · have e1 : layE s = 13 := by simp [layE, hla]
    have e2 : layS s v = s := by simp [layS, e1]
    refine (lay_laid h hla v).mono ?_
    rintro e w' ⟨rfl, hb⟩
    rw [e1, e2]
    exact ⟨rfl, Stp.ofBelow h hb⟩

theorem ring_publish (h : RingAt w b pb m s) :
    Calls Tryz.prog 80 #[.pointer (some ⟨b, 0, none⟩)] w fun e w' => e = .returned (.int .i64 (pubE s)) ∧ Stp b pb w w' (pubS s) := by
  cases hla : s.laid
  · refine (ring_publish_none h hla).mono ?_
    rintro e w' ⟨rfl, rfl⟩
    simp only [pubE, pubS, hla]
    exact ⟨rfl, Stp.ofSame h⟩
  · refine (ring_publish_some h hla).mono ?_
    rintro e w' ⟨rfl, h1, h2⟩
    simp only [pubE, pubS, hla]
    exact ⟨rfl, pb, m, h1, h2, Or.inl rfl⟩

theorem ring_free (h : RingAt w b pb m s) :
    Calls Tryz.prog 82 #[.pointer (some ⟨b, 0, none⟩)] w fun e w' => e = .returned (.int .i64 (peekE s)) ∧ ∃ n, RingAt w' b pb m (freeS s) ∧ Fr b pb w w' ∧ (s.xs = [] → w' = w.drewN n) := by
  cases hx : s.xs with
  | nil =>
    refine (ring_free_none h hx).mono ?_
    rintro e w' ⟨rfl, n, rfl⟩
    simp only [peekE, freeS, hx]
    exact ⟨rfl, n, h.drewN n, (Fr.refl _ _ _).drewN n, fun _ => rfl⟩
  | cons x r =>
    refine (ring_free_some h hx).mono ?_
    rintro e w' ⟨rfl, h1, h2⟩
    simp only [peekE, freeS, hx]
    exact ⟨rfl, 0, h1, h2, fun c => by cases c⟩

theorem ring_peek (h : RingAt w b pb m s) :
    Calls Tryz.prog 81 #[.pointer (some ⟨b, 0, none⟩)] w fun e w' => e = .returned (.tuple #[pkv (peekV s), .int .i64 (peekE s)]) ∧ Below w.heap.size w w' := by
  cases hx : s.xs with
  | nil =>
    refine (ring_peek_none h hx).mono ?_
    rintro e w' ⟨rfl, h⟩
    simp only [peekE, peekV, hx]
    exact ⟨rfl, h⟩
  | cons x r =>
    refine (ring_peek_some h hx).mono ?_
    rintro e w' ⟨rfl, h1⟩
    simp only [peekE, peekV, hx]
    exact ⟨rfl, h1⟩

set_option maxHeartbeats 4000000 in
theorem ring_pop (h : RingAt w b pb m s) :
    Calls Tryz.prog 65 #[.pointer (some ⟨b, 0, none⟩)] w fun e w' => e = .returned (.tuple #[pkv (peekV s), .int .i64 (peekE s)]) ∧ RingAt w' b pb m (freeS s) ∧ Fr b pb w w' := by
  have B0 : Hid (Below w.heap.size w (w.alloc (.cells #[.int .i64 0, .int .i64 0, .int .i64 0, .string ⟨#[]⟩] 61))) := box_below _ _
  have N0 : Hid ((w.alloc (.cells #[.int .i64 0, .int .i64 0, .int .i64 0, .string ⟨#[]⟩] 61)).heap[w.heap.size]? = some (.cells #[.int .i64 0, .int .i64 0, .int .i64 0, .string ⟨#[]⟩] 61 (0, 0))) := heap_alloc_new w _
  have K := ring_peek (h.next B0.out)
  have HF : Hid (∀ V, RingAt V b pb m s → Calls Tryz.prog 82 #[.pointer (some ⟨b, 0, none⟩)] V fun e w' => e = .returned (.int .i64 (peekE s)) ∧ ∃ n, RingAt w' b pb m (freeS s) ∧ Fr b pb V w' ∧ (s.xs = [] → w' = V.drewN n)) := show _ from fun V hV => ring_free hV
  obtain ⟨hb1, hb2⟩ := h.lt
  have HH : Hid (RingAt w b pb m s) := h
  clear h
  by_cases hx : s.xs = []
  · have e1 : peekE s = 8 := by simp [peekE, hx]
    have e2 : freeS s = s := by simp [freeS, hx]
    rw [e1] at K ⊢
    rw [e2]
    clear HF e1 e2 hx
    generalize peekV s = x at *
    obtain ⟨xa, xb, xc, xd⟩ := x
    simp only [pkv] at K ⊢
    go_enter Tryz.func65, Tryz.ntmps65
    go_upto_region 1 with fail
    generalize (w.alloc (.cells #[.int .i64 0, .int .i64 0, .int .i64 0, .string ⟨#[]⟩] 61)) = v0 at *
    go_upto_region 2 with (go_at_call 81; refine K.mono ?_; rintro e w1 ⟨rfl, hb1⟩)
    have B1 : Below w.heap.size w w1 := B0.out.trans (hb1.mono B0.out.size)
    have B2 : Hid (Below w.heap.size w (w1.alloc (.cells #[.int .i64 xa, .int .i64 xb, .int .i64 xc, .string xd] 61))) := B1.alloc B1.size _
    have N2 : Hid ((w1.alloc (.cells #[.int .i64 xa, .int .i64 xb, .int .i64 xc, .string xd] 61)).heap[w.heap.size]? = some (.cells #[.int .i64 0, .int .i64 0, .int .i64 0, .string ⟨#[]⟩] 61 (0, 0))) := show _ from by
      rw [Below.heap_alloc _ _ _ (Nat.lt_of_lt_of_le (lt_of_heap N0.out) hb1.size), hb1.block _ (lt_of_heap N0.out)]
      exact N0.out
    have M2 : Hid ((w1.alloc (.cells #[.int .i64 xa, .int .i64 xb, .int .i64 xc, .string xd] 61)).heap[w1.heap.size]? = some (.cells #[.int .i64 xa, .int .i64 xb, .int .i64 xc, .string xd] 61 (0, 0))) := heap_alloc_new w1 _
    have hw1 : w.heap.size < w1.heap.size := Nat.lt_of_lt_of_le (lt_of_heap N0.out) hb1.size
    clear hb1 B1 K B0 N0
    generalize w1.alloc (.cells #[.int .i64 xa, .int .i64 xb, .int .i64 xc, .string xd] 61) = v2 at *
    generalize w1.heap.size = nb at *
    have N3 : Hid (v2.heap[w.heap.size]? = some (.cells #[.int .i64 0, .int .i64 0, .int .i64 0, .string ⟨#[]⟩] 61 (0, 0))) := N2.out
    have M3 : v2.heap[nb]? = some (.cells #[.int .i64 xa, .int .i64 xb, .int .i64 xc, .string xd] 61 (0, 0)) := M2.out
    have F3 : Hid (Fr b pb w v2) := Fr.ofBelow B2.out (Nat.le_refl _)
    have R3 : Hid (RingAt v2 b pb m s) := HH.out.next B2.out
    have m0 := cell_of M3 0
    have m1 := cell_of M3 1
    have m2 := cell_of M3 2
    have m3 := cell_of M3 3
    have n0 := cell_of N3.out 0
    have n1 := cell_of N3.out 1
    have n2 := cell_of N3.out 2
    have n3 := cell_of N3.out 3
    have f0 := frozen_of N3.out 0
    have f1 := frozen_of N3.out 1
    have f2 := frozen_of N3.out 2
    have f3 := frozen_of N3.out 3
    simp only [List.getElem?_toArray, List.getElem?_cons_zero, List.getElem?_cons_succ] at m0 m1 m2 m3 n0 n1 n2 n3
    have yy := heap_set (heap_set (heap_set (heap_set N3.out 0 (.int .i64 xa)) 1 (.int .i64 xb)) 2 (.int .i64 xc)) 3 (.string xd)
    have Y0 := (cell_of yy 0).trans (by simp : _ = some (Value.int .i64 xa))
    have Y1 := (cell_of yy 1).trans (by simp : _ = some (Value.int .i64 xb))
    have Y2 := (cell_of yy 2).trans (by simp : _ = some (Value.int .i64 xc))
    have Y3 := (cell_of yy 3).trans (by simp : _ = some (Value.string xd))
    clear yy M3
    go_wp2
    have F4 : Fr b pb w ((((v2.setCell ⟨w.heap.size, 0, none⟩ (.int .i64 xa)).setCell ⟨w.heap.size, 1, none⟩ (.int .i64 xb)).setCell ⟨w.heap.size, 2, none⟩ (.int .i64 xc)).setCell ⟨w.heap.size, 3, none⟩ (.string xd)) := (((F3.out.setCell (Or.inr (Or.inr (Nat.le_refl _))) _).setCell (Or.inr (Or.inr (Nat.le_refl _))) _).setCell (Or.inr (Or.inr (Nat.le_refl _))) _).setCell (Or.inr (Or.inr (Nat.le_refl _))) _
    have R4 : RingAt ((((v2.setCell ⟨w.heap.size, 0, none⟩ (.int .i64 xa)).setCell ⟨w.heap.size, 1, none⟩ (.int .i64 xb)).setCell ⟨w.heap.size, 2, none⟩ (.int .i64 xc)).setCell ⟨w.heap.size, 3, none⟩ (.string xd)) b pb m s := R3.out.keep ((heap_set_ne _ (by show b ≠ w.heap.size; omega)).trans ((heap_set_ne _ (by show b ≠ w.heap.size; omega)).trans ((heap_set_ne _ (by show b ≠ w.heap.size; omega)).trans (heap_set_ne _ (by show b ≠ w.heap.size; omega))))) ((heap_set_ne _ (by show pb ≠ w.heap.size; omega)).trans ((heap_set_ne _ (by show pb ≠ w.heap.size; omega)).trans ((heap_set_ne _ (by show pb ≠ w.heap.size; omega)).trans (heap_set_ne _ (by show pb ≠ w.heap.size; omega)))))
    refine bodyPost_ret (v := .tuple #[.agg #[.int .i64 xa, .int .i64 xb, .int .i64 xc, .string xd], .int .i64 8]) (by simp [results, Tryz.results65, go_sem, Y0, Y1, Y2, Y3]; try rfl) rfl ⟨rfl, R4, F4⟩
  · have e1 : peekE s = 0 := by simp [peekE, hx]
    rw [e1] at K HF ⊢
    clear e1 hx
    generalize peekV s = x at *
    generalize freeS s = s' at *
    obtain ⟨xa, xb, xc, xd⟩ := x
    simp only [pkv] at K ⊢
    go_enter Tryz.func65, Tryz.ntmps65
    go_upto_region 1 with fail
    generalize (w.alloc (.cells #[.int .i64 0, .int .i64 0, .int .i64 0, .string ⟨#[]⟩] 61)) = v0 at *
    go_upto_region 2 with (go_at_call 81; refine K.mono ?_; rintro e w1 ⟨rfl, hb1⟩)
    have B1 : Below w.heap.size w w1 := B0.out.trans (hb1.mono B0.out.size)
    have B2 : Hid (Below w.heap.size w (w1.alloc (.cells #[.int .i64 xa, .int .i64 xb, .int .i64 xc, .string xd] 61))) := B1.alloc B1.size _
    have N2 : Hid ((w1.alloc (.cells #[.int .i64 xa, .int .i64 xb, .int .i64 xc, .string xd] 61)).heap[w.heap.size]? = some (.cells #[.int .i64 0, .int .i64 0, .int .i64 0, .string ⟨#[]⟩] 61 (0, 0))) := show _ from by
      rw [Below.heap_alloc _ _ _ (Nat.lt_of_lt_of_le (lt_of_heap N0.out) hb1.size), hb1.block _ (lt_of_heap N0.out)]
      exact N0.out
    have M2 : Hid ((w1.alloc (.cells #[.int .i64 xa, .int .i64 xb, .int .i64 xc, .string xd] 61)).heap[w1.heap.size]? = some (.cells #[.int .i64 xa, .int .i64 xb, .int .i64 xc, .string xd] 61 (0, 0))) := heap_alloc_new w1 _
    have hw1 : w.heap.size < w1.heap.size := Nat.lt_of_lt_of_le (lt_of_heap N0.out) hb1.size
    clear hb1 B1 K B0 N0
    generalize w1.alloc (.cells #[.int .i64 xa, .int .i64 xb, .int .i64 xc, .string xd] 61) = v2 at *
    generalize w1.heap.size = nb at *
    have FC := HF.out v2 (HH.out.next B2.out)
    go_upto_region 4 with (go_at_call 82; refine FC.mono ?_; rintro e w3 ⟨rfl, _, hR, hF, _⟩)
    have N3 : Hid (w3.heap[w.heap.size]? = some (.cells #[.int .i64 0, .int .i64 0, .int .i64 0, .string ⟨#[]⟩] 61 (0, 0))) := show _ from by
      rw [hF.block _ (lt_of_heap N2.out) (by omega) (by omega)]
      exact N2.out
    have M3 : w3.heap[nb]? = some (.cells #[.int .i64 xa, .int .i64 xb, .int .i64 xc, .string xd] 61 (0, 0)) := by
      rw [hF.block _ (lt_of_heap M2.out) (by omega) (by omega)]
      exact M2.out
    have F3 : Hid (Fr b pb w w3) := (Fr.ofBelow B2.out (Nat.le_refl _) : Fr b pb w v2).trans hF (Or.inl rfl)
    have R3 : Hid (RingAt w3 b pb m s') := hR
    clear FC hR hF N2 M2 B2
    have m0 := cell_of M3 0
    have m1 := cell_of M3 1
    have m2 := cell_of M3 2
    have m3 := cell_of M3 3
    have n0 := cell_of N3.out 0
    have n1 := cell_of N3.out 1
    have n2 := cell_of N3.out 2
    have n3 := cell_of N3.out 3
    have f0 := frozen_of N3.out 0
    have f1 := frozen_of N3.out 1
    have f2 := frozen_of N3.out 2
    have f3 := frozen_of N3.out 3
    simp only [List.getElem?_toArray, List.getElem?_cons_zero, List.getElem?_cons_succ] at m0 m1 m2 m3 n0 n1 n2 n3
    have yy := heap_set (heap_set (heap_set (heap_set N3.out 0 (.int .i64 xa)) 1 (.int .i64 xb)) 2 (.int .i64 xc)) 3 (.string xd)
    have Y0 := (cell_of yy 0).trans (by simp : _ = some (Value.int .i64 xa))
    have Y1 := (cell_of yy 1).trans (by simp : _ = some (Value.int .i64 xb))
    have Y2 := (cell_of yy 2).trans (by simp : _ = some (Value.int .i64 xc))
    have Y3 := (cell_of yy 3).trans (by simp : _ = some (Value.string xd))
    clear yy M3
    go_wp2
    have F4 : Fr b pb w ((((w3.setCell ⟨w.heap.size, 0, none⟩ (.int .i64 xa)).setCell ⟨w.heap.size, 1, none⟩ (.int .i64 xb)).setCell ⟨w.heap.size, 2, none⟩ (.int .i64 xc)).setCell ⟨w.heap.size, 3, none⟩ (.string xd)) := (((F3.out.setCell (Or.inr (Or.inr (Nat.le_refl _))) _).setCell (Or.inr (Or.inr (Nat.le_refl _))) _).setCell (Or.inr (Or.inr (Nat.le_refl _))) _).setCell (Or.inr (Or.inr (Nat.le_refl _))) _
    have R4 : RingAt ((((w3.setCell ⟨w.heap.size, 0, none⟩ (.int .i64 xa)).setCell ⟨w.heap.size, 1, none⟩ (.int .i64 xb)).setCell ⟨w.heap.size, 2, none⟩ (.int .i64 xc)).setCell ⟨w.heap.size, 3, none⟩ (.string xd)) b pb m s' := R3.out.keep ((heap_set_ne _ (by show b ≠ w.heap.size; omega)).trans ((heap_set_ne _ (by show b ≠ w.heap.size; omega)).trans ((heap_set_ne _ (by show b ≠ w.heap.size; omega)).trans (heap_set_ne _ (by show b ≠ w.heap.size; omega))))) ((heap_set_ne _ (by show pb ≠ w.heap.size; omega)).trans ((heap_set_ne _ (by show pb ≠ w.heap.size; omega)).trans ((heap_set_ne _ (by show pb ≠ w.heap.size; omega)).trans (heap_set_ne _ (by show pb ≠ w.heap.size; omega)))))
    refine bodyPost_ret (v := .tuple #[.agg #[.int .i64 xa, .int .i64 xb, .int .i64 xc, .string xd], .int .i64 0]) (by simp [results, Tryz.results65, go_sem, Y0, Y1, Y2, Y3]; try rfl) rfl ⟨rfl, R4, F4⟩

set_option maxHeartbeats 4000000 in
theorem ring_push (h : RingAt w b pb m s) (v : Pk) :
    Calls Tryz.prog 64 #[.pointer (some ⟨b, 0, none⟩), pkv v] w fun e w' => e = .returned (.int .i64 (layE s)) ∧ Stp b pb w w' (pushS s v) := by
  have B0 : Hid (Below w.heap.size w (w.alloc (.cells (pk4 v).toArray 61))) := box_below _ _
  have N0 : Hid ((w.alloc (.cells (pk4 v).toArray 61)).heap[w.heap.size]? = some (.cells (pk4 v).toArray 61 (0, 0))) := heap_alloc_new w _
  have K := ring_lay (h.next B0.out) v
  have up : Hid (∀ w' s', Stp b pb (w.alloc (.cells (pk4 v).toArray 61)) w' s' → Stp b pb w w' s') := show _ from fun w' s' hS => by
    obtain ⟨p, m', h1, h2, h3⟩ := hS
    refine ⟨p, m', h1, (Fr.ofBelow B0.out (Nat.le_refl _) : Fr b pb w _).trans h2 (Or.inl rfl), ?_⟩
    rcases h3 with h3 | h3
    · exact Or.inl h3
    · exact Or.inr (Nat.le_trans B0.out.size h3)
  have m0 := cell_of N0.out 0
  have m1 := cell_of N0.out 1
  have m2 := cell_of N0.out 2
  have m3 := cell_of N0.out 3
  simp only [List.getElem?_toArray, List.getElem?_cons_zero, List.getElem?_cons_succ] at m0 m1 m2 m3
  by_cases h0 : layE s = 0
  · have e1 : pushS s v = (s.lay v).published := by simp [pushS, h0]
    have e2 : layS s v = s.lay v := by simp [layS, h0]
    have e3 : pubS (s.lay v) = (s.lay v).published := by simp [pubS, RingSt.lay]
    have e4 : pubE (s.lay v) = 0 := by simp [pubE, RingSt.lay]
    rw [h0, e2] at K
    rw [e1, h0, ← e3]
    have HE : Hid (pubE (s.lay v) = 0) := e4
    clear h0 e1 e2 e3 e4 h N0 B0
    generalize s.lay v = s1 at *
    obtain ⟨va, vb, vc, vd⟩ := v
    simp only [pkv] at *
    go_enter Tryz.func64, Tryz.ntmps64
    go_upto_region 1 with fail
    generalize w.alloc (.cells #[.int .i64 va, .int .i64 vb, .int .i64 vc, .string vd] 61) = v0 at *
    go_wp2_with (go_at_call 79; refine K.mono ?_; rintro e w' ⟨rfl, pb', m', hR, hF, hP⟩)
    go_at_call 80
    refine (ring_publish hR).mono ?_
    rintro e w' ⟨rfl, pb2, m2, hR2, hF2, hP2⟩
    rw [HE.out]
    have hS : Stp b pb w w' (pubS s1) := up.out _ _ ⟨pb2, m2, hR2, hF.trans hF2 hP, by have := hF.size; omega⟩
    clear hR hF hP hR2 hF2 hP2
    go_wp2
    go_ret
    exact ⟨rfl, hS⟩
  · have e1 : pushS s v = s := by simp [pushS, h0]
    have e2 : layS s v = s := by simp [layS, h0]
    rw [e2] at K
    rw [e1]
    have h1 : (layE s == 0) = false := by simpa using h0
    have h2 : (layE s != 0) = true := by simpa using h0
    clear e1 e2 h h0 N0 B0
    generalize layE s = er at *
    obtain ⟨va, vb, vc, vd⟩ := v
    simp only [pkv] at *
    go_enter Tryz.func64, Tryz.ntmps64
    go_upto_region 1 with fail
    generalize w.alloc (.cells #[.int .i64 va, .int .i64 vb, .int .i64 vc, .string vd] 61) = v0 at *
    go_wp2_with (go_at_call 79; refine K.mono ?_; rintro e w' ⟨rfl, hS⟩)
    go_ret
    exact ⟨rfl, up.out _ _ hS⟩

end
end Go.Proofs.YtoejpngdkcnnhaaGreat.I.RP

namespace Go.Proofs.YtoejpngdkcnnhaaGreat.I.RP
open Go.RowKit

def ring0 (room : Int) (i : Nat) : RingSt := ⟨room, i, i, false, zc, []⟩
theorem ring_new (room : Int) (i : Nat) (hi : i < 4294967296) (w : World) : Calls Tryz.prog 45 #[.int .i64 room, .int .u32 (i : Int)] w fun e w' => e = .returned (.pointer (some ⟨w.heap.size, 0, none⟩)) ∧ RingAt w' w.heap.size w.heap.size 0 (ring0 room i) ∧ Below w.heap.size w w' ∧ w.heap.size < w'.heap.size := by
  have ok : RingOk (ring0 room i) := by
    refine ⟨hi, hi, ?_, ?_⟩
    · show (i + 0) % 4294967296 = i
      omega
    · simp only [ring0, one, List.length_nil]
      simp
      omega
  have R : ∀ t, RingAt (w.alloc (.cells #[.int .i64 room, .slice none 0 0, .int .u32 (i : Int), .int .u32 (i : Int), .bool false] t)) w.heap.size w.heap.size 0 (ring0 room i) := fun t =>
    ⟨ok, ⟨t, heap_alloc_new w _⟩, Or.inl ⟨rfl, rfl, rfl, rfl⟩⟩
  have B : ∀ t, Below w.heap.size w (w.alloc (.cells #[.int .i64 room, .slice none 0 0, .int .u32 (i : Int), .int .u32 (i : Int), .bool false] t)) := fun t => (Below.refl _ _).alloc (Nat.le_refl _) _
  have HR : Hid _ := R
  clear ok R
  go_enter Tryz.func45, Tryz.ntmps45
  go_wp2
  go_ret
  exact ⟨rfl, HR _, B _, by simp⟩
end Go.Proofs.YtoejpngdkcnnhaaGreat.I.RP

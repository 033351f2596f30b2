import PyProof.Rows.All
import Wide.All
import OpenK.AllK
import Wide.FinOn
import Open.SpecLaws
import KE.OsHead
import KE.OsGo
import KE.SortKeyHeap
import KE.DataMinKey
import HandS.ForSpec
import HandS.Nested
import HandS.Conv
import HandS.Comp
import HandS.Iter
import HandS.Walk
import HandS.Remove
import HandS.SetFor
import HandS.SortInts
import HandS.Lambda
import PySem.Challenge.RW_roomstays_s05_places
set_option Elab.async false
set_option linter.all false
set_option maxRecDepth 100000
set_option maxHeartbeats 2000000
namespace Rm
open Ks439
/-! ### the stays as handed in -/
def sts (ns : List Int) : List Stay := staysOf (ns.map Int.toNat)
theorem staysOf_len : ∀ l : List Nat, (staysOf l).length = l.length / 2
  | [] => rfl
  | [_] => by simp [staysOf]
  | a :: b :: l => by
    show (staysOf l).length + 1 = (l.length + 1 + 1) / 2
    rw [staysOf_len l]
    omega
theorem sts_len (ns : List Int) : (sts ns).length = ns.length / 2 := by
  unfold sts
  rw [staysOf_len, List.length_map]
theorem staysOf_get : ∀ (l : List Nat) (i a b : Nat), l[2 * i]? = some a → l[2 * i + 1]? = some b → (staysOf l)[i]? = some ⟨a, b⟩
  | [], i, _, _, h, _ => by simp at h
  | [x], 0, _, _, _, h => by simp at h
  | [x], i + 1, _, _, h, _ => by
    have e : 2 * (i + 1) = 2 * i + 1 + 1 := by omega
    rw [e] at h
    simp at h
  | x :: y :: l, 0, a, b, h, h2 => by
    have e1 : x = a := Option.some.inj h
    have e2 : y = b := Option.some.inj h2
    rw [e1, e2]
    rfl
  | x :: y :: l, i + 1, a, b, h, h2 => by
    have e : 2 * (i + 1) = 2 * i + 1 + 1 := by omega
    rw [e] at h h2
    exact staysOf_get l i a b h h2
theorem sts_get {ns : List Int} {i : Nat} {a b : Int} (h : ns[2 * i]? = some a) (h2 : ns[2 * i + 1]? = some b) : (sts ns)[i]? = some ⟨a.toNat, b.toNat⟩ := by
  refine staysOf_get _ _ _ _ ?_ ?_
  · rw [List.getElem?_map, h] <;> rfl
  · rw [List.getElem?_map, h2] <;> rfl
def fits (x : Stay) : Bool := decide (x.from_ < x.to_) && decide (x.to_ ≤ 24)
/-- what the program asks of the stays -/
def okB (ns : List Int) : Bool := decide (ns.length % 2 = 0) && decide (ns.length ≤ 20) && (sts ns).all fits
theorem okB_even {ns : List Int} (h : okB ns = true) : ns.length % 2 = 0 := by
  unfold okB at h
  simp only [Bool.and_eq_true, decide_eq_true_eq] at h
  exact h.1.1
theorem okB_len {ns : List Int} (h : okB ns = true) : ns.length ≤ 20 := by
  unfold okB at h
  simp only [Bool.and_eq_true, decide_eq_true_eq] at h
  exact h.1.2
theorem given_eq (ns : List Int) (b : Bool) (f : List Stay → Ans) : given (ns.map Int.toNat) b f = if (b && okB ns) = true then f (sts ns) else no (-22) := by
  unfold given okB sts
  have e : ((ns.map Int.toNat).length % 2 == 0) = decide (ns.length % 2 = 0) := by rw [List.length_map]; rfl
  have hl := staysOf_len (ns.map Int.toNat)
  rw [List.length_map] at hl
  dsimp only
  rw [e]
  have e2 : (decide (ns.length % 2 = 0) && decide ((staysOf (ns.map Int.toNat)).length ≤ ASKS)) = (decide (ns.length % 2 = 0) && decide (ns.length ≤ 20)) := by
    rw [hl]
    by_cases h : ns.length % 2 = 0
    · have q : (ns.length / 2 ≤ ASKS) ↔ ns.length ≤ 20 := by
        show ns.length / 2 ≤ 10 ↔ _
        omega
      simp only [q]
    · simp [h]
  have e3 : (fun x : Stay => decide (x.from_ < x.to_) && decide (x.to_ ≤ HOURS)) = fits := rfl
  rw [e3]
  cases b with
  | false => simp
  | true =>
    rw [Bool.true_and, Bool.true_and, e2]
/-! ### the order -/
/-- i stays from an earlier hour than j, or from the same one and is the less -/
def before (l : List Stay) (i j : Nat) : Prop := (stay l i).from_ < (stay l j).from_ ∨ ((stay l i).from_ = (stay l j).from_ ∧ i < j)
def notAfter (l : List Stay) (i j : Nat) : Prop := (stay l i).from_ < (stay l j).from_ ∨ ((stay l i).from_ = (stay l j).from_ ∧ i ≤ j)
theorem notAfter_anti {l : List Stay} {i j : Nat} (h : notAfter l i j) (h2 : notAfter l j i) : i = j := by
  unfold notAfter at h h2
  omega
theorem notAfter_trans {l : List Stay} {i j k : Nat} (h : notAfter l i j) (h2 : notAfter l j k) : notAfter l i k := by
  unfold notAfter at *
  omega
theorem put_perm (l : List Stay) (i : Nat) : ∀ r, (put l i r).Perm (i :: r)
  | [] => .refl _
  | j :: r => by
    unfold put
    split
    · exact .refl _
    · exact (List.Perm.cons j (put_perm l i r)).trans (List.Perm.swap i j r)
theorem put_sorted (l : List Stay) (i : Nat) : ∀ r, r.Pairwise (notAfter l) → (put l i r).Pairwise (notAfter l)
  | [], _ => by
    unfold put
    exact List.pairwise_singleton _ _
  | j :: r, h => by
    obtain ⟨h1, h2⟩ := List.pairwise_cons.mp h
    unfold put
    split
    · rename_i c
      have c' : notAfter l i j := by
        unfold notAfter
        omega
      exact List.pairwise_cons.mpr ⟨fun z hz => by
        rcases List.mem_cons.mp hz with rfl | hz
        · exact c'
        · exact notAfter_trans c' (h1 z hz), h⟩
    · rename_i c
      have c' : notAfter l j i := by
        unfold notAfter
        omega
      exact List.pairwise_cons.mpr ⟨fun z hz => by
        rcases List.mem_cons.mp ((put_perm l i r).mem_iff.mp hz) with rfl | hz
        · exact c'
        · exact h1 z hz, put_sorted l i r h2⟩
theorem order_perm (l : List Stay) : ∀ r : List Nat, (r.foldr (put l) []).Perm r
  | [] => .refl _
  | i :: r => (put_perm l i _).trans (.cons i (order_perm l r))
theorem order_sorted (l : List Stay) : ∀ r : List Nat, (r.foldr (put l) []).Pairwise (notAfter l)
  | [] => .nil
  | i :: r => put_sorted l i _ (order_sorted l r)
theorem sorted_one {l : List Stay} : ∀ {a b : List Nat}, a.Pairwise (notAfter l) → b.Pairwise (notAfter l) → a.Perm b → a = b
  | [], b, _, _, p => (List.nil_perm.mp p).symm
  | x :: a, [], _, _, p => (by cases List.perm_nil.mp p)
  | x :: a, y :: b, ha, hb, p => by
    obtain ⟨a1, a2⟩ := List.pairwise_cons.mp ha
    obtain ⟨b1, b2⟩ := List.pairwise_cons.mp hb
    have e : x = y := by
      have m1 : x ∈ y :: b := p.mem_iff.mp (List.mem_cons_self ..)
      have m2 : y ∈ x :: a := p.mem_iff.mpr (List.mem_cons_self ..)
      rcases List.mem_cons.mp m1 with e | m1
      · exact e
      · rcases List.mem_cons.mp m2 with e | m2
        · exact e.symm
        · exact notAfter_anti (a1 y m2) (b1 x m1)
    subst e
    rw [sorted_one a2 b2 (List.Perm.cons_inv p)]
theorem inOrder_of {l : List Stay} {a : List Nat} (h : a.Pairwise (notAfter l)) (p : a.Perm (List.range l.length)) : a = inOrder l :=
  sorted_one h (order_sorted l _) (p.trans (order_perm l _).symm)
theorem inOrder_perm (l : List Stay) : (inOrder l).Perm (List.range l.length) := order_perm l _
theorem inOrder_lt {l : List Stay} {i : Nat} (h : i ∈ inOrder l) : i < l.length := List.mem_range.mp ((inOrder_perm l).mem_iff.mp h)
theorem inOrder_nodup (l : List Stay) : (inOrder l).Nodup := (inOrder_perm l).nodup_iff.mpr List.nodup_range
theorem inOrder_len (l : List Stay) : (inOrder l).length = l.length := by rw [(inOrder_perm l).length_eq, List.length_range]
/-! ### a step -/
/-- b is outdone by i: i stays up to a later hour, or as long and is the greater -/
def beats (l : List Stay) (i b : Nat) : Bool := decide ((stay l b).to_ < (stay l i).to_ ∨ ((stay l b).to_ = (stay l i).to_ ∧ b < i))
/-- the one that stays longest, of some (0 of none) -/
def last (l : List Stay) : List Nat → Nat
  | [] => 0
  | a :: r => r.foldl (fun b i => if beats l i b = true then i else b) a
theorem longest_last (l : List Stay) (a : Nat) (r : List Nat) : longest l (a :: r) = some (last l (a :: r)) := by
  unfold longest last beats
  simp only [decide_eq_true_eq]
theorem fold_mem {p : Nat → Nat → Bool} : ∀ (r : List Nat) (a : Nat), r.foldl (fun b i => if p i b = true then i else b) a ∈ a :: r
  | [], a => List.mem_cons_self ..
  | i :: r, a => by
    rw [List.foldl_cons]
    have h := fold_mem (p := p) r (if p i a = true then i else a)
    rcases List.mem_cons.mp h with e | h
    · rw [e]
      split
      · exact List.mem_cons_of_mem _ (List.mem_cons_self ..)
      · exact List.mem_cons_self ..
    · exact List.mem_cons_of_mem _ (List.mem_cons_of_mem _ h)
theorem last_mem {l : List Stay} {xs : List Nat} (h : xs ≠ []) : last l xs ∈ xs := by
  cases xs with
  | nil => exact absurd rfl h
  | cons a r => exact fold_mem r a
/-- the best of those gone through, by place -/
def bestAt (bt : Nat → Nat → Bool) : Nat → Nat
  | 0 => 0
  | i + 1 => if bt (i + 1) (bestAt bt i) = true then i + 1 else bestAt bt i
theorem bestAt_last (l : List Stay) (xs : List Nat) (d : Nat) : ∀ i, i < xs.length → xs.getD (bestAt (fun i j => beats l (xs.getD i d) (xs.getD j d)) i) d = last l (xs.take (i + 1)) := by
  intro i
  induction i with
  | zero =>
    intro h
    cases xs with
    | nil => simp at h
    | cons a r => rfl
  | succ i ih =>
    intro h
    have ih := ih (by omega)
    unfold bestAt
    have e : xs.take (i + 1 + 1) = xs.take (i + 1) ++ [xs.getD (i + 1) d] := by
      rw [List.take_add_one, List.getElem?_eq_getElem h, List.getD_eq_getElem?_getD, List.getElem?_eq_getElem h]
      rfl
    have ne : ∃ a r, xs.take (i + 1) = a :: r := by
      cases xs with
      | nil => simp at h
      | cons a r => exact ⟨a, r.take i, rfl⟩
    obtain ⟨a, r, er⟩ := ne
    rw [e, er]
    rw [er] at ih
    show _ = (r ++ [xs.getD (i + 1) d]).foldl _ a
    rw [List.foldl_append]
    show _ = (if beats l (xs.getD (i + 1) d) (last l (a :: r)) = true then xs.getD (i + 1) d else last l (a :: r))
    rw [← ih]
    split <;> rfl
/-- the program's step: one more is let in; if there are too many, the one of those there that stays longest isn't -/
def turn (l : List Stay) (cap : Nat) (s : List Nat) (i : Nat) : List Nat :=
  let t := s ++ [i]
  let now := t.filter (there l (stay l i).from_)
  if cap < now.length then t.erase (last l now) else t
theorem turn_step {l : List Stay} {cap : Nat} {s : List Nat} {i : Nat} (hs : (s ++ [i]).Nodup) : turn l cap s i = step l cap s i := by
  unfold turn step
  dsimp only
  by_cases c : ((s ++ [i]).filter (there l (stay l i).from_)).length ≤ cap
  · rw [if_neg (by omega), if_pos c]
  · rw [if_pos (by omega), if_neg c]
    cases e : (s ++ [i]).filter (there l (stay l i).from_) with
    | nil =>
      rw [e] at c
      exact absurd (Nat.zero_le _) c
    | cons a r =>
      rw [longest_last]
      show _ = (s ++ [i]).filter fun k => k != last l (a :: r)
      exact hs.erase_eq_filter _
theorem turn_sub {l : List Stay} {cap : Nat} {s : List Nat} {i : Nat} : (turn l cap s i).Sublist (s ++ [i]) := by
  unfold turn
  dsimp only
  split
  · exact List.erase_sublist
  · exact List.Sublist.refl _
/-- those inside behind some -/
def inside (l : List Stay) (cap : Nat) (r : List Nat) : List Nat := r.foldl (turn l cap) []
theorem inside_more (l : List Stay) (cap : Nat) (r : List Nat) (i : Nat) : inside l cap (r ++ [i]) = turn l cap (inside l cap r) i := by
  unfold inside
  rw [List.foldl_append]
  rfl
theorem folds_eq {l : List Stay} {cap : Nat} : ∀ (r s : List Nat), (s ++ r).Nodup → r.foldl (turn l cap) s = r.foldl (step l cap) s ∧ (r.foldl (turn l cap) s).Nodup ∧ ∀ x ∈ r.foldl (turn l cap) s, x ∈ s ++ r
  | [], s, h => ⟨rfl, by simpa using h, fun x hx => by simpa using hx⟩
  | i :: r, s, h => by
    have h' : (s ++ [i] ++ r).Nodup := by simpa using h
    have h1 : (s ++ [i]).Nodup := (List.nodup_append.mp h').1
    have sub : (turn l cap s i ++ r).Sublist (s ++ [i] ++ r) := (turn_sub (l := l) (cap := cap)).append (List.Sublist.refl r)
    have q := folds_eq (l := l) (cap := cap) r (turn l cap s i) (h'.sublist sub)
    rw [List.foldl_cons, List.foldl_cons, ← turn_step h1]
    refine ⟨q.1, q.2.1, fun x hx => ?_⟩
    have m := sub.subset (q.2.2 x hx)
    simpa using m
theorem inside_facts (l : List Stay) (cap : Nat) (r : List Nat) (h : r.Nodup) : inside l cap r = r.foldl (step l cap) [] ∧ (inside l cap r).Nodup ∧ ∀ x ∈ inside l cap r, x ∈ r := by
  have q := folds_eq (l := l) (cap := cap) r [] (by simpa using h)
  exact ⟨q.1, q.2.1, fun x hx => by simpa using q.2.2 x hx⟩
theorem turn_len (l : List Stay) (cap : Nat) (s : List Nat) (i : Nat) : (turn l cap s i).length ≤ s.length + 1 := by
  have h := (turn_sub (l := l) (cap := cap) (s := s) (i := i)).length_le
  rwa [List.length_append, List.length_singleton] at h
theorem folds_len (l : List Stay) (cap : Nat) : ∀ (r s : List Nat), (r.foldl (turn l cap) s).length ≤ s.length + r.length
  | [], s => Nat.le_refl _
  | i :: r, s => by
    rw [List.foldl_cons, List.length_cons]
    have h1 := folds_len l cap r (turn l cap s i)
    have h2 := turn_len l cap s i
    omega
theorem inside_len (l : List Stay) (cap : Nat) (r : List Nat) : (inside l cap r).length ≤ r.length := by
  have h := folds_len l cap r []
  rwa [List.length_nil, Nat.zero_add] at h
theorem erase_cast : ∀ (l : List Nat) (k : Nat), (l.map fun i : Nat => (i : Int)).erase (k : Int) = (l.erase k).map fun i : Nat => (i : Int)
  | [], _ => rfl
  | a :: l, k => by
    rw [List.map_cons, List.erase_cons, List.erase_cons]
    by_cases h : a = k
    · rw [if_pos (by rw [h]; exact beq_self_eq_true _), if_pos (by rw [h]; exact beq_self_eq_true _)]
    · have h2 : ¬ ((a : Int) == (k : Int)) = true := fun z => h (Int.ofNat.inj (eq_of_beq z))
      rw [if_neg h2, if_neg (by simpa using h), List.map_cons, erase_cast l k]
theorem nats_back {ns : List Int} {l : List Nat} (h : ns.Perm (l.map fun i : Nat => (i : Int))) : (ns.map Int.toNat).Perm l ∧ (ns.map Int.toNat).map (fun i : Nat => (i : Int)) = ns := by
  constructor
  · have p := h.map Int.toNat
    have e : (l.map fun i : Nat => (i : Int)).map Int.toNat = l := by
      rw [List.map_map]
      exact (List.map_congr_left fun i _ => Int.toNat_natCast i).trans (List.map_id l)
    rwa [e] at p
  · rw [List.map_map]
    refine (List.map_congr_left fun x hx => ?_).trans (List.map_id ns)
    obtain ⟨i, _, e⟩ := List.mem_map.mp (h.mem_iff.mp hx)
    show ((x.toNat : Nat) : Int) = x
    rw [← e]
    rfl
theorem rising_back {ns : List Int} (h : ns.Pairwise (· ≤ ·)) : (ns.map Int.toNat).Pairwise (· ≤ ·) :=
  List.pairwise_map.mpr (h.imp fun h => Int.toNat_le_toNat h)
/-- a rising list with the members of s, of those below n -/
theorem rising_filter {n : Nat} {s out : List Nat} (hs : s.Nodup) (hlt : ∀ x ∈ s, x < n) (hp : out.Perm s) (ho : out.Pairwise (· ≤ ·)) : out = (List.range n).filter fun i => s.contains i := by
  have hnd : out.Nodup := hp.nodup_iff.mpr hs
  have p2 : ((List.range n).filter fun i => s.contains i).Perm s := by
    refine (List.perm_ext_iff_of_nodup (List.nodup_range.filter _) hs).mpr fun x => ?_
    rw [List.mem_filter, List.mem_range]
    simp only [List.contains_eq_mem, decide_eq_true_eq]
    exact ⟨fun h => h.2, fun h => ⟨hlt x h, h⟩⟩
  have s2 : ((List.range n).filter fun i => s.contains i).Pairwise (· ≤ ·) := (List.pairwise_le_range).filter _
  exact List.Perm.eq_of_pairwise (fun a b _ _ h1 h2 => Nat.le_antisymm h1 h2) ho s2 (hp.trans p2.symm)
theorem letIn_eq {l : List Stay} {cap : Nat} {out : List Nat} (hp : out.Perm (inside l cap (inOrder l))) (ho : out.Pairwise (· ≤ ·)) : out = letIn l cap := by
  obtain ⟨e, nd, m⟩ := inside_facts l cap (inOrder l) (inOrder_nodup l)
  have h := rising_filter nd (fun x hx => inOrder_lt (m x hx)) hp ho
  rw [h]
  unfold letIn
  dsimp only
  rw [e]
theorem letin_f (places : Int) (ns : List Int) : PyKs439.letin places ns =
    if (decide (places.toNat ≤ 20) && okB ns) = true then ((letIn (sts ns) places.toNat).length : Int) :: (letIn (sts ns) places.toNat).map Int.ofNat else [-22] := by
  show Ks439Neutral.out (given (ns.map Int.toNat) (decide (places.toNat ≤ 20)) fun s => rows (letIn s places.toNat)) = _
  rw [given_eq]
  split
  · rfl
  · rfl
end Rm

namespace Rm
open Ks439
/-! ### lockers -/
/-- who has got which locker, behind some -/
def gotBy (l : List Stay) (r : List Nat) : List (Nat × Nat) := r.foldl (fun got i => got ++ [(i, free l got i)]) []
theorem gotBy_nil (l : List Stay) : gotBy l [] = [] := rfl
theorem gotBy_more (l : List Stay) (r : List Nat) (i : Nat) : gotBy l (r ++ [i]) = gotBy l r ++ [(i, free l (gotBy l r) i)] := by
  unfold gotBy
  rw [List.foldl_append]
  rfl
theorem gotBy_who (l : List Stay) : ∀ (r : List Nat) (g : List (Nat × Nat)), (r.foldl (fun got i => got ++ [(i, free l got i)]) g).map (·.1) = g.map (·.1) ++ r
  | [], g => (List.append_nil _).symm
  | i :: r, g => by
    rw [List.foldl_cons, gotBy_who l r]
    simp
theorem gotBy_fst (l : List Stay) (r : List Nat) : (gotBy l r).map (·.1) = r := gotBy_who l r []
theorem gotBy_len (l : List Stay) (r : List Nat) : (gotBy l r).length = r.length := by
  rw [← List.length_map (f := (·.1)), gotBy_fst]
/-- a number is taken, by one who is there in the hour from which i stays -/
def taken (l : List Stay) (got : List (Nat × Nat)) (i n : Nat) : Bool := got.any fun g => g.2 == n && there l (stay l i).from_ g.1
theorem taken_iff {l : List Stay} {got : List (Nat × Nat)} {i n : Nat} : taken l got i n = true ↔ ∃ j, (j, n) ∈ got ∧ there l (stay l i).from_ j = true := by
  unfold taken
  rw [List.any_eq_true]
  constructor
  · rintro ⟨⟨j, m⟩, hm, h⟩
    rw [Bool.and_eq_true, beq_iff_eq] at h
    have e : m = n := h.1
    subst e
    exact ⟨j, hm, h.2⟩
  · rintro ⟨j, hm, h⟩
    exact ⟨(j, n), hm, by rw [Bool.and_eq_true, beq_iff_eq]; exact ⟨rfl, h⟩⟩
/-- those who have a number that is so and so, of 0 .. k - 1: no more than there are -/
theorem all_among : ∀ (k : Nat) (xs : List Nat), (∀ m < k, m ∈ xs) → k ≤ xs.length
  | 0, xs, _ => Nat.zero_le _
  | k + 1, xs, h => by
    have hk := h k (Nat.lt_succ_self k)
    have q := all_among k (xs.erase k) fun m hm => (List.mem_erase_of_ne (Nat.ne_of_lt hm)).mpr (h m (Nat.lt_succ_of_lt hm))
    rw [List.length_erase_of_mem hk] at q
    have := List.length_pos_of_mem hk
    omega
/-- the least number that isn't taken -/
theorem free_is {l : List Stay} {got : List (Nat × Nat)} {i n : Nat} (h : taken l got i n = false) (hb : ∀ m < n, taken l got i m = true) : free l got i = n := by
  have hn : n ≤ got.length := by
    have q := all_among n (got.map (·.2)) fun m hm => by
      obtain ⟨j, hj, _⟩ := taken_iff.mp (hb m hm)
      exact List.mem_map.mpr ⟨_, hj, rfl⟩
    rwa [List.length_map] at q
  have e : (List.range (got.length + 1)).find? (fun n => !(got.any fun g => g.2 == n && there l (stay l i).from_ g.1)) = some n := by
    rw [List.find?_range_eq_some]
    refine ⟨?_, List.mem_range.mpr (by omega), fun j hj => ?_⟩
    · show (!(taken l got i n)) = true
      rw [h]
      rfl
    · show (!(!(taken l got i j))) = true
      rw [hb j hj]
      rfl
  unfold free
  rw [e]
  rfl
/-- the locker of each, behind some -/
def lockBy (l : List Stay) (r : List Nat) (i : Nat) : Nat := ((gotBy l r).find? fun g => g.1 == i).elim 0 fun g => g.2
theorem lockerOf_eq (l : List Stay) (i : Nat) : lockerOf l i = lockBy l (inOrder l) i := rfl
theorem lockBy_new {l : List Stay} {r : List Nat} {i : Nat} (h : i ∉ r) : lockBy l (r ++ [i]) i = free l (gotBy l r) i := by
  unfold lockBy
  rw [gotBy_more, List.find?_append]
  have e : (gotBy l r).find? (fun g => g.1 == i) = none := by
    rw [List.find?_eq_none]
    intro g hg c
    refine h ?_
    rw [← gotBy_fst l r]
    exact List.mem_map.mpr ⟨g, hg, eq_of_beq c⟩
  rw [e]
  simp
theorem lockBy_old {l : List Stay} {r : List Nat} {i j : Nat} (h : j ≠ i) : lockBy l (r ++ [i]) j = lockBy l r j := by
  unfold lockBy
  rw [gotBy_more, List.find?_append]
  have e : ([(i, free l (gotBy l r) i)] : List (Nat × Nat)).find? (fun g => g.1 == j) = none := by
    rw [List.find?_eq_none]
    intro g hg c
    rw [List.mem_singleton.mp hg] at c
    exact h (eq_of_beq c).symm
  rw [e]
  simp
theorem lockBy_none {l : List Stay} {r : List Nat} {i : Nat} (h : i ∉ r) : lockBy l r i = 0 := by
  unfold lockBy
  have e : (gotBy l r).find? (fun g => g.1 == i) = none := by
    rw [List.find?_eq_none]
    intro g hg c
    refine h ?_
    rw [← gotBy_fst l r]
    exact List.mem_map.mpr ⟨g, hg, eq_of_beq c⟩
  rw [e]
  rfl
/-- of different ones, each has what it got -/
theorem gotBy_mem {l : List Stay} : ∀ {r : List Nat}, r.Nodup → ∀ j n, (j, n) ∈ gotBy l r ↔ j ∈ r ∧ n = lockBy l r j := by
  intro r
  generalize hk : r.length = k
  induction k generalizing r with
  | zero =>
    intro _ j n
    have e : r = [] := List.length_eq_zero_iff.mp hk
    subst e
    rw [gotBy_nil]
    simp
  | succ k ih =>
    intro nd j n
    have ne : r ≠ [] := fun z => by
      rw [z] at hk
      cases hk
    obtain ⟨r', i, rfl⟩ : ∃ r' i, r = r' ++ [i] := ⟨r.dropLast, r.getLast ne, (List.dropLast_concat_getLast ne).symm⟩
    have hk' : r'.length = k := by
      rw [List.length_append, List.length_singleton] at hk
      omega
    have nd' := List.nodup_append.mp nd
    have ni : i ∉ r' := fun m => (nd'.2.2 i m i (List.mem_singleton.mpr rfl)) rfl
    have ih := ih hk' nd'.1 j n
    rw [gotBy_more, List.mem_append, ih, List.mem_append, List.mem_singleton, List.mem_singleton]
    by_cases e : j = i
    · subst e
      rw [lockBy_new ni]
      constructor
      · rintro (⟨m, _⟩ | z)
        · exact absurd m ni
        · exact ⟨.inr rfl, (Prod.mk.inj z).2⟩
      · rintro ⟨_, rfl⟩
        exact .inr rfl
    · rw [lockBy_old e]
      constructor
      · rintro (⟨m, z⟩ | z)
        · exact ⟨.inl m, z⟩
        · exact absurd (Prod.mk.inj z).1 e
      · rintro ⟨m | m, z⟩
        · exact .inl ⟨m, z⟩
        · exact absurd m e
/-- a number is taken, told by the lockers of those who are there -/
theorem taken_by {l : List Stay} {r : List Nat} (nd : r.Nodup) {i n : Nat} : taken l (gotBy l r) i n = true ↔ ∃ j ∈ r, there l (stay l i).from_ j = true ∧ lockBy l r j = n := by
  rw [taken_iff]
  constructor
  · rintro ⟨j, hm, h⟩
    obtain ⟨h1, h2⟩ := (gotBy_mem nd j n).mp hm
    exact ⟨j, h1, h, h2.symm⟩
  · rintro ⟨j, h1, h, h2⟩
    exact ⟨j, (gotBy_mem nd j n).mpr ⟨h1, h2.symm⟩, h⟩
/-- the next one's locker: the least number that isn't among those of the ones who are there -/
theorem lockBy_least {l : List Stay} {r : List Nat} {i n : Nat} (nd : (r ++ [i]).Nodup) (h : n ∉ (r.filter (there l (stay l i).from_)).map (lockBy l r)) (hb : ∀ m < n, m ∈ (r.filter (there l (stay l i).from_)).map (lockBy l r)) : lockBy l (r ++ [i]) i = n := by
  have nd' := List.nodup_append.mp nd
  have ni : i ∉ r := fun m => (nd'.2.2 i m i (List.mem_singleton.mpr rfl)) rfl
  have me : ∀ m, m ∈ (r.filter (there l (stay l i).from_)).map (lockBy l r) ↔ taken l (gotBy l r) i m = true := fun m => by
    rw [taken_by nd'.1, List.mem_map]
    constructor
    · rintro ⟨j, hj, e⟩
      obtain ⟨h1, h2⟩ := List.mem_filter.mp hj
      exact ⟨j, h1, h2, e⟩
    · rintro ⟨j, h1, h2, e⟩
      exact ⟨j, List.mem_filter.mpr ⟨h1, h2⟩, e⟩
  rw [lockBy_new ni]
  refine free_is ?_ fun m hm => (me m).mp (hb m hm)
  cases c : taken l (gotBy l r) i n with
  | false => rfl
  | true => exact absurd ((me n).mpr c) h
theorem lockers_f (ns : List Int) : PyKs439.lockers ns = if okB ns = true then ((sts ns).length : Int) :: ((List.range (sts ns).length).map (lockerOf (sts ns))).map Int.ofNat else [-22] := by
  show Ks439Neutral.out (given (ns.map Int.toNat) true fun s => rows ((List.range s.length).map (lockerOf s))) = _
  rw [given_eq, Bool.true_and]
  split
  · show ((((List.range (sts ns).length).map (lockerOf (sts ns))).length : Nat) : Int) :: _ = _
    rw [List.length_map, List.length_range]
    rfl
  · rfl
/-! ### places -/
theorem places_f (ns : List Int) : PyKs439.places ns = if okB ns = true then (((sts ns).length + 1 : Nat) : Int) :: ((List.range ((sts ns).length + 1)).map fun c => (letIn (sts ns) c).length).map Int.ofNat else [-22] := by
  show Ks439Neutral.out (given (ns.map Int.toNat) true fun s => rows ((List.range (s.length + 1)).map fun c => (letIn s c).length)) = _
  rw [given_eq, Bool.true_and]
  split
  · show ((((List.range ((sts ns).length + 1)).map fun c => (letIn (sts ns) c).length).length : Nat) : Int) :: _ = _
    rw [List.length_map, List.length_range]
    rfl
  · rfl
end Rm

/-! a lambda that makes a key of two whole numbers, called by sorted and by max: at the level of the machine -/
namespace Rm
open PySem PySem.Spec PyProof.Rows L2 LamX NdefX
/-- lambda y: (x[y][k], y), x captured -/
abbrev keyBody (x y : Str) (k : Int) (p1 p2 p3 p4 p5 p6 p7 : Pos) : Expr := .Tuple [.Subscript (.Subscript (.Name x p1) (.Name y p2) p3) (.Constant (.int k) 0 p4) p5, .Name y p6] 0 p7
section
variable {prog : Program} {w : World} {A : Around} {s : Shared}
theorem key_call {f c' cs sp t : Addr} {qual x y : Str} {params : Arguments} {scope : Scope} {cl : List (Str × Addr)} {pm ctv v : Value} {k i z : Int} {tk tz : Tok} {its us : Array Value} {p1 p2 p3 p4 p5 p6 p7 : Pos}
    (hroom : A.depth < recursionLimit) (hlim : s.heap.NoLimit)
    (ho : s.heap.get? f = some (PySem.W.kla_obj "<lambda>" qual params (keyBody x y k p1 p2 p3 p4 p5 p6 p7) scope cl pm c' ctv)) (hcd : s.heap.CodeRec (.ref c') qual)
    (hbind : ∀ v, bindArgs (PySem.W.kla_fn "<lambda>" qual params (keyBody x y k p1 p2 p3 p4 p5 p6 p7) scope cl pm (.ref c') ctv) ⟨[v], []⟩ = pure [(y, v)])
    (hk : scope.kind = .function) (hco : scope.isCoroutine = false) (hgen : scope.isGenerator = false) (hnc : ∀ q ∈ scope.names, q.2 ≠ .cell) (hy : scope.names.lookup y = some .local) (hx : scope.names.lookup x = some .free)
    (hc : cl.lookup x = some cs) (hcell : s.heap.IsCell cs (some (.ref sp))) (hl : s.heap.IsList sp its) (hv : v = .int i tk) (h0 : 0 ≤ i) (h1 : i < 2 ^ 62) (hi : its[i.toNat]? = some (.ref t))
    (ht : IsTup s.heap t us) (hk0 : 0 ≤ k) (hk1 : k < 2 ^ 62) (hu : us[k.toNat]? = some (.int z tz))
    (hyd : (y == ("__debug__" : Str)) = false) (hxd : (x == ("__debug__" : Str)) = false) (hxc : (x == ("__classdict__" : Str)) = false) :
    wpAny (model prog w) A (call (.ref f) [v]) (fun r s2 => PySem.W.KeyPure (.tuple [.int z, .int i]) s r s2 ∧ ∃ b, r = .ref b ∧ s.heap.get? b = none) (fun _ _ => False) s := by
  subst hv
  refine wpAny_call ?_
  refine PySem.W.kla_callFunE hroom ho rfl hco hgen rfl hcd ?_
  rw [hbind]
  refine wpAny_pure (wpAny_newFunctionEnv hnc (fun q hq => ?_) (fun h₁ hns hsb => ⟨hlim.fresh _ hsb, ?_⟩) hk)
  · rw [List.mem_singleton] at hq
    subst hq
    exact hy
  refine PySem.W.kla_codeExpr ?_
  have kp : ∀ b o, s.heap.get? b = some o → h₁.get? b = some o := fun b o e => hsb.extBut b o (Nat.ne_of_lt (Heap.lt_size e)) (Heap.get?_push_of_some _ e)
  have hn : (newEnv scope s.heap.objs.size mainGlobals cl (qual ++ ".<locals>.") (some f) (.ref c') none builtinsNs).cells = cl := by
    unfold newEnv
    rfl
  generalize henv : newEnv scope s.heap.objs.size mainGlobals cl (qual ++ ".<locals>.") (some f) (.ref c') none builtinsNs = env at hn
  have hek : env.scope.kind = .function := by rw [← henv]; exact hk
  have heL : env.locals = s.heap.objs.size := by rw [← henv]; rfl
  have hey : env.kindOf y = some .local := by rw [← henv]; exact hy
  have hex : env.kindOf x = some .free := by rw [← henv]; exact hx
  have hec : env.cells.lookup x = some cs := by rw [hn]; exact hc
  have hcell1 : h₁.IsCell cs (some (.ref sp)) := let ⟨o, e, d⟩ := hcell; ⟨o, kp _ _ e, d⟩
  have hl1 : h₁.IsList sp its := let ⟨o, e, r⟩ := hl; ⟨o, kp _ _ e, r⟩
  have ht1 : IsTup h₁ t us := ht.keeps kp
  have hns1 : h₁.Ns env.locals (fun q => [(y, Value.int i tk)].reverse.lookup q) := by rw [heL]; exact hns
  have hyv : (fun q => [(y, Value.int i tk)].reverse.lookup q) y = some (.int i tk) := by
    show List.lookup y [(y, Value.int i tk)] = _
    simp [List.lookup]
  refine wpAny_Tuple_spliced ?_
  have es : backTo p7 (starEach [Expr.Subscript (.Subscript (.Name x p1) (.Name y p2) p3) (.Constant (.int k) 0 p4) p5, .Name y p6] env) =
      [(false, eval (.Subscript (.Subscript (.Name x p1) (.Name y p2) p3) (.Constant (.int k) 0 p4) p5) env), (false, eval (.Name y p6) env)] := by rfl
  rw [es]
  refine Calls.spliced_cons ?_
  refine Subscript_ ?_
  refine Subscript_ ?_
  refine wpAny_Name (wpAny_loadName_free hek hex hec hcell1 ?_ hxc) hxd
  refine wpAny_Name (wpAny_loadName_local hek hey hns1 hyv ?_) hyd
  refine item_listR hl1 h0 (by omega) hi ?_
  refine wpAny_Constant_int ?_
  have hj : seqIndex? k us.size = some k.toNat := by
    have hlt : k.toNat < us.size := by
      rcases Nat.lt_or_ge k.toNat us.size with q | q
      · exact q
      · rw [Array.getElem?_eq_none q] at hu
        cases hu
    exact seqIndex_of hk0 (by omega)
  refine subscriptTail_builtinR (x := .int z tz) (s := { s with heap := h₁, toks := _ }) ht1.typeIs slot_tuple_getitem.lookup (getItem_tuple (j := k.toNat) ht1 (by omega) (by omega) hj hu ⟨rfl, ?_⟩) (by rfl)
  refine Calls.spliced_cons ?_
  refine wpAny_Name (wpAny_loadName_local hek hey hns1 hyv ?_) hyd
  refine Calls.spliced_nil ⟨by show 2 ≤ sizeLine; decide, ?_⟩
  refine ⟨⟨_, _, rfl, fun b o e => Heap.get?_push_of_some _ (kp b o e), ?_⟩, _, rfl, ?_⟩
  · exact .tuple (Heap.get?_push_size _ rfl) rfl rfl (.cons (.int _ _) (.cons (.int _ _) .nil))
  · cases e : s.heap.get? h₁.objs.size with
    | none => rfl
    | some o => exact absurd (Heap.lt_size (kp _ _ e)) (Nat.lt_irrefl _)
end
/-! ### sorted(range(n), key=f) -/
section
variable {prog : Program} {w : World} {A : Around} {s : Shared}
theorem each_range {acc : Array Value} {n : Nat} (h : ItemsOf (fun i v => ∃ t, v = .int (0 + i * 1) t) acc n) : PySem.W.EachIs (fun v (x : Nat) => ∃ t, v = .int (x : Int) t) acc.toList (List.range n) := by
  obtain ⟨h1, h2⟩ := h
  refine PySem.W.EachIs.of_zip (by rw [Array.length_toList, List.length_range]; exact h1) fun p hp => ?_
  obtain ⟨i, hi, e⟩ := List.getElem_of_mem hp
  rw [List.getElem_zip] at e
  have hi1 : i < acc.toList.length := by
    rw [List.length_zip] at hi
    omega
  rw [← e]
  obtain ⟨t, ht⟩ := h2 i _ (by rw [← Array.getElem?_toList]; exact List.getElem?_eq_getElem hi1)
  refine ⟨t, ?_⟩
  dsimp only
  rw [ht, List.getElem_range]
  congr 1
  omega
theorem sorted_key_range {E : Value → Shared → Prop} {r f : Addr} {n : Nat} {t u v : Tok} {Q : Value → Shared → Prop} (x y : Nat → Int) (hh : A.handled = none) (hr : IsRange s.heap r 0 n 1 t u v) (hn : n ≤ 1000) (hu : A.units + 20 < cLine)
    (turn : ∀ (v : Value) (i : Nat), (∃ t, v = .int (i : Int) t) → i < n → ∀ (h : Heap) (tk : Nat), (∀ b o, s.heap.get? b = some o → h.get? b = some o) →
      wpAny (model prog w) A.in1.in1 (call (.ref f) [v]) (PySem.W.KeyPure (.tuple [.int (x i), .int (y i)]) { s with heap := h, toks := tk }) (fun _ _ => False) { s with heap := h, toks := tk })
    (h : ∀ (out : List Value) (c : Nat) (h1 h' : Heap) (tk : Nat) (p : Addr), (∀ b o, s.heap.get? b = some o → h1.get? b = some o) → (∀ b o, h1.get? b = some o → h'.get? b = some o) → h1.objs.size ≤ p → h'.get? p = some (seqObj "list" out.toArray c) →
      PySem.W.EachIs (fun v (i : Nat) => ∃ t, v = .int (i : Int) t) out ((List.range n).mergeSort fun p q => decide (x p < x q ∨ (x p = x q ∧ y p ≤ y q))) → Q (.ref p) { s with heap := h', toks := tk }) :
    wpAny (model prog w) A (call (.builtin "sorted") [.ref r] [(Str.ofString "key", .ref f)]) Q E s := by
  refine call_function_entry_kw kind_sorted plain_sorted entry_sorted (ksk_s1 _ _) ?_
  unfold Builtin.«sorted»
  refine wpAny_bind (m := checkCount "sorted" 1 1 _) (wpAny_pure ?_)
  refine wpAny_bind (collect_range (A := A.in1) (n := n) hh hr ?_ ?_ (by omega) fun h1 tk1 acc k1 hi => ?_)
  · exact small_one (by omega) (by omega) (by omega) (by omega)
  · rw [rangeSize_nat]
    omega
  have ea := each_range hi
  have hz : acc.toList.length = n := by rw [Array.length_toList]; exact hi.1
  have hL : acc.toList.length ≤ sizeLine := by rw [hz, sizeLine_eq]; omega
  refine wpAny_bind (wpAny_newList ?_ hL)
  have ho : (h1.push (seqObj "list" acc.toList.toArray 0)).get? h1.objs.size = some (seqObj "list" acc.toList.toArray 0) := Heap.get?_push_size _ rfl
  refine wpAny_bind (wpAny_holding (wpAny_call_entry_kw slot_list_sort ⟨_, ho, rfl⟩ entry_list_sort ?body (ksk_l1 _ _)))
  case body =>
    show wpAny (model prog w) A.in1.in1 (Builtin.«list.sort» ⟨[.ref h1.objs.size], [(Str.ofString "key", .ref f)]⟩) _ _ { s with heap := h1.push (seqObj "list" acc.toList.toArray 0), toks := tk1 }
    rw [ksk_t1]
    have up : ∀ {g : Heap}, PySem.W.KeepsBut h1.objs.size (h1.push (seqObj "list" acc.toList.toArray 0)) g → ∀ b o, s.heap.get? b = some o → g.get? b = some o := fun {g} kp b o q =>
      kp b o (Nat.ne_of_lt (Heap.lt_size (k1 b o q))) (Heap.get?_push_of_some _ (k1 b o q))
    refine PySem.W.keyH_tree (b := false) (kz := (List.range n).map fun i => .tuple [.int (x i), .int (y i)]) (s := { s with heap := h1.push (seqObj "list" acc.toList.toArray 0), toks := tk1 }) (vs := acc.toList) ho ?_ hL ?_ ?_ ?_ ?_ ?_
    · rw [List.length_map, List.length_range]
      exact hz.symm
    · exact PySem.W.AllAlike.of fun _ _ => by simp [PySem.W.alike, PySem.W.alikeAll]
    · exact PySem.W.Sortable.tuples fun _ => ⟨_, _, rfl⟩
    · refine PySem.W.bound_map (A := A.in1.in1) fun i _ => ?_
      have hd : (PyData.tuple [.int (x i), .int (y i)]).depth = 1 := by simp [PyData.depth, PyData.depthAll]
      rw [hd]
      show A.units + 1 + 1 + 1 < cLine
      omega
    · exact PySem.W.keyH_turns (k := fun i : Nat => PyData.tuple [.int (x i), .int (y i)]) (s := { s with heap := h1.push (seqObj "list" acc.toList.toArray 0), toks := tk1 }) ea fun v i hR hx g tk kp => turn v i hR (List.mem_range.mp hx) g tk (up kp)
    · intro h' tk out c kp hD ko
      refine ⟨_, rfl, wpAny_pure ⟨_, rfl, ?_⟩⟩
      refine h out c h1 h' tk _ k1 (fun b o q => kp b o (Nat.ne_of_lt (Heap.lt_size q)) (Heap.get?_push_of_some _ q)) (Nat.le_refl _) hD ?_
      have e := PySem.W.keyedOut_each (fun i : Nat => PyData.tuple [.int (x i), .int (y i)]) ko ea
      rw [PySem.W.dataLe_ii] at e
      exact e
end
end Rm

namespace Rm
open PySem PySem.Spec PyProof.Rows L2 LamX NdefX
/-! ### max(xs, key=f) -/
/-- a tuple of two whole numbers -/
def PairAt (h : Heap) (b : Addr) (x y : Int) : Prop := ∃ (o : Obj) (n : Nat) (t u : Tok), h.get? b = some o ∧ o.cls = .type "tuple" ∧ o.data = .seq #[.int x t, .int y u] n
theorem PairAt.reads {h : Heap} {b : Addr} {x y : Int} (p : PairAt h b x y) : Reads h (.ref b) (.tuple [.int x, .int y]) [] := by
  obtain ⟨o, n, t, u, h1, h2, h3⟩ := p
  exact .tuple h1 h2 h3 (.cons (.int _ _) (.cons (.int _ _) .nil))
theorem PairAt.of {h : Heap} {b : Addr} {x y : Int} {as : List Addr} (r : Reads h (.ref b) (.tuple [.int x, .int y]) as) : PairAt h b x y := by
  cases r with
  | @tuple a o vs n xs as h1 h2 h3 h4 =>
    generalize hv : vs.toList = l at h4
    cases h4 with
    | cons r1 r2 =>
      cases r1 with
      | int _ t1 =>
        cases r2 with
        | cons r3 r4 =>
          cases r3 with
          | int _ t2 =>
            cases r4
            have e : vs = #[.int x t1, .int y t2] := by
              apply Array.toList_inj.mp
              rw [hv]
            refine ⟨o, n, t1, t2, h1, h2, ?_⟩
            rw [h3, e]
theorem PairAt.stay {h h' : Heap} {b : Addr} {x y : Int} (p : PairAt h b x y) (k : ∀ o, h.get? b = some o → h'.get? b = some o) : PairAt h' b x y := by
  obtain ⟨o, n, t, u, h1, r⟩ := p
  exact ⟨o, n, t, u, k _ h1, r⟩
section
variable {prog : Program} {w : World} {A : Around} {s : Shared}
/-- a call f(v) that keeps all that was there and gives a new pair -/
def NewPair (x y : Int) (s₁ : Shared) (r : Value) (s₂ : Shared) : Prop := PySem.W.KeyPure (.tuple [.int x, .int y]) s₁ r s₂ ∧ ∃ b, r = .ref b ∧ s₁.heap.get? b = none
theorem max_key_list {E : Value → Shared → Prop} {l f : Addr} {items : Array Value} {Q : Value → Shared → Prop} (x y : Nat → Int) (hh : A.handled = none) (hl : s.heap.IsList l items) (hne : 0 < items.size) (hu : A.units + 20 < cLine)
    (turn : ∀ (i : Nat) (v : Value), items[i]? = some v → ∀ (h : Heap) (tk : Nat), (∀ b o, s.heap.get? b = some o → h.get? b = some o) →
      wpAny (model prog w) A.in1 (call (.ref f) [v]) (NewPair (x i) (y i) { s with heap := h, toks := tk }) (fun _ _ => False) { s with heap := h, toks := tk })
    (h : ∀ (v : Value) (h' : Heap) (tk : Nat), items[argBest (fun i j => decide (x j < x i ∨ (x j = x i ∧ y j < y i))) (items.size - 1)]? = some v → (∀ b o, s.heap.get? b = some o → h'.get? b = some o) → Q v { s with heap := h', toks := tk }) :
    wpAny (model prog w) A (call (.builtin "max") [.ref l] [(Str.ofString "key", .ref f)]) Q E s := by
  have hls : l < s.heap.objs.size := let ⟨o, e, _⟩ := hl; Heap.lt_size e
  refine call_max_walkK (wpAny_pyIter_list hl ?_)
  have W := (Walks.list (prog := prog) (w := w) (A := A.in1.in1) hh s.heap.objs.size l (Nat.ne_of_lt hls) items).toS
  refine ⟨s.heap.objs.size, _, _, _, _, _, _, fun s' => ∃ (h' : Heap) (tk : Nat), s' = { s with heap := h', toks := tk } ∧ ∀ b o, s.heap.get? b = some o → h'.get? b = some o,
    fun i k s' => ∃ b, k = .ref b ∧ b ≠ s.heap.objs.size + 1 ∧ b ≠ s.heap.objs.size ∧ PairAt s'.heap b (x i) (y i), fun i j => decide (x j < x i ∨ (x j = x i ∧ y j < y i)), rfl,
    (Walks.list (prog := prog) (w := w) (A := A.in1) hh s.heap.objs.size l (Nat.ne_of_lt hls) items).toS, ?_, ?_, hne, ?_, ?_, ?_⟩
  · exact ⟨⟨_, Heap.get?_push_size _ rfl, rfl, rfl⟩, let ⟨o, e, r⟩ := hl; ⟨o, Heap.get?_push_of_some _ e, r⟩⟩
  · intro b hb
    rw [Heap.size_push]
    rcases List.mem_cons.mp hb with e | hb
    · rw [e]
      exact Nat.lt_succ_self _
    · rw [List.mem_singleton.mp hb]
      exact Nat.lt_succ_of_lt hls
  · have eS : (s.heap.push { cls := .type "list_iterator", data := .fields #[.ref l, .int 0 0] }).objs.size = s.heap.objs.size + 1 := Heap.size_push ..
    rw [show ({ s with heap := s.heap.push { cls := .type "list_iterator", data := .fields #[.ref l, .int 0 0] } } : Shared).heap.objs.size = s.heap.objs.size + 1 from eS]
    refine ⟨?_, ?_, ?_, ?_⟩
    · rintro s1 s2 ⟨h', tk, rfl, k⟩ m
      refine ⟨s2.heap, s2.toks, ?_, fun b o e => m.heap b o ?_ (k b o e)⟩
      · obtain ⟨a1, a2, a3, a4, a5⟩ := s2
        have m2 := m.gens
        have m3 := m.drawn
        have m4 := m.os
        simp only at m2 m3 m4
        subst m2 m3 m4
        rfl
      · have hb := Heap.lt_size e
        intro hm
        rcases List.mem_cons.mp hm with e | hm
        · rw [e] at hb
          exact absurd hb (Nat.not_lt_of_le (Nat.le_succ _))
        · rw [List.mem_singleton.mp hm] at hb
          exact absurd hb (Nat.lt_irrefl _)
    · rintro i k s1 s2 ⟨b, rfl, n1, n2, p⟩ m
      exact ⟨b, rfl, n1, n2, p.stay fun o e => m.heap b o (fun hm => (List.mem_cons.mp hm).elim n1 fun hm => n2 (List.mem_singleton.mp hm)) e⟩
    · rintro i v s1 o Q' E' hi hv ⟨h', tk, rfl, k⟩ st hS hQ
      refine wpAny_mono (turn i v hv h' tk k) (fun r s2 hr => ?_) fun _ _ z => z.elim
      obtain ⟨⟨h2, tk2, rfl, k2, rd⟩, b, rfl, nb⟩ := hr
      refine hQ _ _ ⟨h2, tk2, rfl, fun b o e => k2 b o (k b o e)⟩ ?_ (k2 _ _ hS) ⟨b, rfl, ?_, ?_, PairAt.of rd⟩ fun j k' ⟨b', e, n1, n2, p⟩ => ⟨b', e, n1, n2, p.stay fun o e => k2 _ _ e⟩
      · obtain ⟨s1', s2'⟩ := st
        obtain ⟨oI, e1, e2⟩ := s1'
        obtain ⟨oL, e3, e4⟩ := s2'
        exact ⟨⟨oI, k2 _ _ e1, e2⟩, ⟨oL, k2 _ _ e3, e4⟩⟩
      · rintro rfl
        rw [nb] at hS
        cases hS
      · rintro rfl
        obtain ⟨s1', _⟩ := st
        obtain ⟨oI, e1, e2⟩ := s1'
        rw [nb] at e1
        cases e1
    · rintro i j ki kj s1 Q' E' _ ⟨b, rfl, _, _, p⟩ ⟨b2, rfl, _, _, p2⟩ hq
      refine PySem.W.rcGt_alike _ _ A.in1 s1 _ _ _ _ p.reads p2.reads (by simp [PySem.W.alike, PySem.W.alikeAll]) (by simp) ?_ prog w E' Q' ?_
      · have hd : ∀ a c : Int, (PyData.tuple [.int a, .int c]).depth = 1 := fun a c => by simp [PyData.depth, PyData.depthAll]
        rw [hd, hd]
        show A.units + 1 + min 1 1 < cLine
        omega
      · rw [PySem.W.dataLt_ii]
        exact hq
  · exact ⟨_, s.toks, rfl, fun b o e => Heap.get?_push_of_some _ e⟩
  · rintro v s' hv ⟨h', tk, rfl, k⟩
    exact h v h' tk hv k
end
end Rm

/-! rules of the layer: a lambda handed over as key=, sorted(range(n), key=..), max(xs, key=..), range(n) as a value -/
namespace Rm
open PySem PySem.Spec PyProof.Rows L2 LamX NdefX
section
variable {X : Cx}
/-- range(n) as a value -/
theorem cr_range1 : CallR X (.type "range") (fun vs H Q => ∃ i, vs = [V.int i] ∧ ∀ p, H p = none → Q (.ref p) (upd H p (.rng 0 i))) := by
  intro pins s σ H vs us Q I r h
  obtain ⟨i, rfl, q⟩ := h
  cases r with
  | cons ri r2 =>
    cases r2
    obtain ⟨t, rfl⟩ := ri
    refine call_range_1 ⟨.ref s.heap.objs.size, upd H s.heap.objs.size (.rng 0 i), I.laid (t' := _) (fun b o e => Heap.get?_push_of_some _ e) (Nat.le_refl _) ?_, rfl, q _ (I.hok.fresh (Nat.le_refl _))⟩
    exact ⟨_, t, _, Heap.get?_push_size _ rfl⟩
/-- a built-in called with a lambda for its key: what is asked of the slots, the values, the heap -/
def CallLam (X : Cx) (id : String) (params : Arguments) (body : Expr) (scope : Scope) (r : L2.St → List V → Hp → VK → Prop) : Prop :=
  ∀ (pins : List (Addr × Obj)) (s : Shared) (σ : L2.St) (H : Hp) (vs : List V) (us : List Value) (f c' : Addr) (pm ctv : Value) (Q : VK), Inv X pins σ H s → Vals vs us →
    s.heap.get? f = some (PySem.W.kla_obj "<lambda>" (X.env.qual ++ "<lambda>") params body scope (cloFrom X.env.cells scope.names []) pm c' ctv) → H c' = some (CodeO c' (X.env.qual ++ "<lambda>")) →
    r σ vs H Q → wpAny (model X.prog X.w) X.A (call (.builtin id) us [(Str.ofString "key", .ref f)]) (EP X pins σ Q) X.xe s
def tKeyed (T : List (Addr × Str)) (r : L2.St → List V → Hp → VK → Prop) (t : TA) : TE := fun σ H Q => t σ H fun vs H1 => Tabs T H1 ∧ ∀ H2, ExtN H1 H2 → Tabs T H2 → r σ vs H2 Q
theorem pe_keyed {T : List (Addr × Str)} {c P : Addr} {id : String} {params : Arguments} {body : Expr} {scope : Scope} {r : L2.St → List V → Hp → VK → Prop} {x : Str} {p pos kpos lpos : Pos} {e : Expr} {es : List Expr} {t : TA}
    (hc : CallLam X id params body scope r) (hg : Gl X x) (hm : X.mg x = none) (hv : bootBuiltins x = some (.builtin id)) (ha : PA X (e :: es) t)
    (TB : TabB X.base X.mg c P) (hcode : X.env.code = .ref c) (hmT : (P, X.env.qual ++ "<lambda>") ∈ T) (hu : ∀ p ∈ T, p.1 = P → p.2 = X.env.qual ++ "<lambda>") (hdef : defaultsOf params X.env = ([], []))
    (hfree : ∀ y ∈ scope.names, y.2 = .free → X.env.scope.names.lookup y.1 = some .cell ∨ X.env.scope.names.lookup y.1 = some .free)
    (hn : x ≠ "__name__" := by decide) (hdb : (x == ("__debug__" : Str)) = false := by decide)
    (he : backTo pos (starEach (e :: es) X.env) = (false, eval e X.env) :: backTo pos (starEach es X.env) := by rfl) (hpl : (backTo pos (starEach (e :: es) X.env)).any (·.1) = false := by rfl) :
    PE X (.Call (.Name x p) (e :: es) [⟨some "key", .Lambda params body scope lpos, kpos⟩] pos) (tKeyed T r t) := by
  refine ⟨fun pins s σ H Q I h => ?_⟩
  have hfr : ∀ y ∈ scope.names, y.2 = .free → ∃ c, X.env.cells.lookup y.1 = some c := fun y hy e => (hfree y hy e).elim (fun z => I.ok.has _ (.inl z)) fun z => I.ok.has _ (.inr z)
  refine wpAny_Call_Name_kw (ld_blt I hg hm hv ?_ hn hdb)
  refine PyProof.Rows.callWith_kw (thn (ha.run pos pins s σ H _ I h) fun us s1 ⟨vs, H1, I1, r1, hT, q1⟩ => ?_) he hpl (by rfl) (by rfl)
  show wpAny _ _ (evalAll [(do let v ← eval (.Lambda params body scope lpos) X.env; standAt pos; pure v)]) _ _ s1
  refine wpAny_evalAll_cons (wpAny_bind (lam_make2 I1 TB hcode hmT hu hT hdef hfr fun f c' pm ctv H2 s2 I2 eN T2 ho _ _ hco => wpAny_bind (wpAny_standAt (wpAny_pure (wpAny_evalAll_nil ?_)))))
  exact hc pins s2 σ H2 vs us f c' pm ctv Q I2 r1 ho hco (q1 H2 eN T2)
/-! ### the key's call over the layer -/
/-- what a key lambda's text is: lambda y: (x[y][k], y) -/
structure KeyTxt (sc : Scope) (params : Arguments) (body : Expr) (scope : Scope) (x y : Str) (k : Int) : Prop where
  ex : ∃ (p1 p2 p3 p4 p5 p6 p7 : Pos), body = keyBody x y k p1 p2 p3 p4 p5 p6 p7
  bind : ∀ (q : Str) (cl : List (Str × Addr)) (pm cv ctv v : Value), bindArgs (PySem.W.kla_fn "<lambda>" q params body scope cl pm cv ctv) ⟨[v], []⟩ = pure [(y, v)]
  kind : scope.kind = .function
  co : scope.isCoroutine = false
  gen : scope.isGenerator = false
  nc : ∀ q ∈ scope.names, q.2 ≠ .cell
  hy : scope.names.lookup y = some .local
  hx : scope.names.lookup x = some .free
  free : ∀ q ∈ scope.names, q.2 = .free → sc.names.lookup q.1 = some .cell ∨ sc.names.lookup q.1 = some .free
  k0 : 0 ≤ k
  k1 : k < 2 ^ 62
  yd : (y == ("__debug__" : Str)) = false
  xd : (x == ("__debug__" : Str)) = false
  xc : (x == ("__classdict__" : Str)) = false
/-- the spans: a list of tuples; the number i's has key at k -/
def KeyOf (K : PySem.W.Frag) (H : Hp) (ts : List Addr) (k : Int) (key : Nat → Int) (i : Nat) : Prop := ∃ t us, ts[i]? = some t ∧ SqT K H t us ∧ us[k.toNat]? = some (.int (key i))
theorem key_in {pins : List (Addr × Obj)} {σ : L2.St} {H : Hp} {s : Shared} {params : Arguments} {body : Expr} {scope : Scope} {x y : Str} {k : Int} {f c' sp : Addr} {pm ctv : Value} {j : Nat} {ts : List Addr} {key : Nat → Int} {i : Nat} {v : Value} (I : Inv X pins σ H s)
    (kt : KeyTxt X.env.scope params body scope x y k) (ho : s.heap.get? f = some (PySem.W.kla_obj "<lambda>" (X.env.qual ++ "<lambda>") params body scope (cloFrom X.env.cells scope.names []) pm c' ctv)) (hc : H c' = some (CodeO c' (X.env.qual ++ "<lambda>")))
    (hN : X.N[j]? = some x) (hσ : σ[j]? = some (some (.ref sp))) (hL : SqL X.K H sp (ts.map V.ref)) (hk : KeyOf X.K H ts k key i) (hi : i < 1000) (hv : ∃ t, v = .int (i : Int) t)
    {A : Around} (hA : A.depth < recursionLimit) (h : Heap) (tk : Nat) (kp : ∀ b o, s.heap.get? b = some o → h.get? b = some o) :
    wpAny (model X.prog X.w) A (call (.ref f) [v]) (NewPair (key i) i { s with heap := h, toks := tk }) (fun _ _ => False) { s with heap := h, toks := tk } := by
  obtain ⟨p1, p2, p3, p4, p5, p6, p7, rfl⟩ := kt.ex
  have hb := kt.bind
  have s6 := kt.hx
  have s7 := kt.free
  obtain ⟨t, us, e1, e2, e3⟩ := hk
  obtain ⟨tv, rfl⟩ := hv
  have hcr : s.heap.CodeRec (.ref c') (X.env.qual ++ "<lambda>") := codeO_at I.hok hc
  have hfree : ∀ q ∈ scope.names, q.2 = .free → ∃ c, X.env.cells.lookup q.1 = some c := fun q hq e => (s7 q hq e).elim (fun z => I.ok.has _ (.inl z)) fun z => I.ok.has _ (.inr z)
  have hxm : (x, NameKind.free) ∈ scope.names := PySem.mem_of_lookup s6
  have hvis : X.env.scope.names.lookup x = some .cell ∨ X.env.scope.names.lookup x = some .free := s7 _ hxm rfl
  obtain ⟨m, hn, hl⟩ := I.loc
  obtain ⟨u, ru, look⟩ := hl j x _ hN hσ (hvis.elim (fun z => .inr (.inl z)) fun z => .inr (.inr z))
  obtain rfl : u = Value.ref sp := ru
  have hcell : ∃ c, X.env.cells.lookup x = some c ∧ s.heap.IsCell c (some (.ref sp)) := by
    rcases look with ⟨z, _⟩ | ⟨_, c, e, z⟩
    · have z' : X.env.scope.names.lookup x = some .local := z
      rcases hvis with q | q <;> rw [q] at z' <;> cases z'
    · exact ⟨c, e, z⟩
  obtain ⟨cs, hcs, hce⟩ := hcell
  obtain ⟨its, rl, pl, hz⟩ := I.list hL
  obtain ⟨ut, hut, rut⟩ := rl.get (i := i) (x := .ref t) (by rw [List.getElem?_map, e1]; rfl)
  obtain rfl : ut = Value.ref t := rut
  obtain ⟨uts, rt, pt, hz2⟩ := I.tuple e2
  obtain ⟨uz, huz, ruz⟩ := rt.get e3
  obtain ⟨tz, rfl⟩ := ruz
  refine key_call (s := { s with heap := h, toks := tk }) (x := x) (y := y) (k := k) (cs := cs) (sp := sp) (t := t) (its := its.toArray) (us := uts.toArray) (tk := tv) (tz := tz) hA (I.nolimit.keeps kp) (kp _ _ ho) (hcr.keeps kp) (fun v => hb _ _ _ _ _ v) kt.kind kt.co kt.gen kt.nc kt.hy s6 (clo_has hfree hxm hcs)
    (let ⟨o, e, d⟩ := hce; ⟨o, kp _ _ e, d⟩) (pl.keeps kp).isList rfl (by omega) (by omega) ?_ (pt.keeps kp) kt.k0 kt.k1 ?_ kt.yd kt.xd kt.xc
  · simpa using hut
  · simpa using huz
/-! ### sorted(range(n), key=..) -/
def rSortKey (K : PySem.W.Frag) (j : Nat) (k : Int) : L2.St → List V → Hp → VK → Prop := fun σ vs H Q => ∃ (p sp : Addr) (n : Nat) (ts : List Addr) (key : Nat → Int), vs = [.ref p] ∧ H p = some (.rng 0 n) ∧ n ≤ 1000 ∧ σ[j]? = some (some (.ref sp)) ∧ SqL K H sp (ts.map V.ref) ∧ (∀ i, i < n → KeyOf K H ts k key i) ∧
  ∀ q, H q = none → Q (.ref q) (upd H q (.lst (((List.range n).mergeSort fun a b => decide (key a < key b ∨ (key a = key b ∧ (a : Int) ≤ (b : Int)))).map fun i => V.int (i : Nat))))
theorem vals_each {out : List Value} {ns : List Nat} (h : PySem.W.EachIs (fun v (i : Nat) => ∃ t, v = Value.int (i : Int) t) out ns) : Vals (ns.map fun i => V.int (i : Nat)) out := by
  induction h with
  | nil => exact .nil
  | cons h1 _ ih => exact .cons h1 ih
theorem cr_sortKey {params : Arguments} {body : Expr} {scope : Scope} {x y : Str} {k : Int} {j : Nat} {l : Nat} (kt : KeyTxt X.env.scope params body scope x y k) (hN : X.N[j]? = some x) (hr : Room l X.A) : CallLam X "sorted" params body scope (rSortKey X.K j k) := by
  intro pins s σ H vs us f c' pm ctv Q I r ho hc h
  obtain ⟨p, sp, n, ts, key, rfl, hp, hn, hσ, hL, hk, q⟩ := h
  cases r with
  | cons r1 r2 =>
    cases r2
    obtain rfl : _ = Value.ref p := r1
    obtain ⟨t, u, v, hrg⟩ := I.hok p _ hp
    show wpAny _ _ (call (.builtin "sorted") [.ref p] [(Str.ofString "key", .ref f)]) _ _ _
    refine sorted_key_range key (fun i => (i : Int)) hr.hd hrg hn (by have := hr.un; omega) (fun v i hv hi g tk kp => ?_) fun out c h1 h' tk d k1 k2 hge hD eo => ?_
    · exact wpAny_mono (key_in I kt ho hc hN hσ hL (hk i hi) (by omega) hv (by have := hr.dp; show X.A.depth < _; omega) g tk kp) (fun _ _ z => z.1) fun _ _ z => z
    · have I1 : Inv X pins σ H { s with heap := h1, toks := tk } := I.kept k1
      have hlen : ((List.range n).mergeSort fun a b => decide (key a < key b ∨ (key a = key b ∧ (a : Int) ≤ (b : Int)))).length ≤ sizeLine := by
        rw [List.length_mergeSort, List.length_range, sizeLine_eq]
        omega
      refine ⟨.ref d, upd H d (.lst _), I1.laid (a := d) (t' := tk) (h' := h') k2 hge ?_, rfl, q d (I1.hok.fresh hge)⟩
      exact ⟨by rw [List.length_map]; exact hlen, out, c, vals_each eo, hD⟩
/-! ### max(xs, key=..) -/
def rMaxKey (K : PySem.W.Frag) (j : Nat) (k : Int) : L2.St → List V → Hp → VK → Prop := fun σ vs H Q => ∃ (l sp : Addr) (ns : List Nat) (ts : List Addr) (key : Nat → Int), vs = [.ref l] ∧ SqL K H l (ns.map fun i => V.int (i : Nat)) ∧ ns ≠ [] ∧ (∀ i ∈ ns, i < 1000) ∧ σ[j]? = some (some (.ref sp)) ∧ SqL K H sp (ts.map V.ref) ∧ (∀ i ∈ ns, KeyOf K H ts k key i) ∧
  Q (.int (ns.getD (argBest (fun i j => decide (key (ns.getD j 0) < key (ns.getD i 0) ∨ (key (ns.getD j 0) = key (ns.getD i 0) ∧ (ns.getD j 0 : Int) < (ns.getD i 0 : Int)))) (ns.length - 1)) 0 : Nat)) H
theorem cr_maxKey {params : Arguments} {body : Expr} {scope : Scope} {x y : Str} {k : Int} {j : Nat} {l : Nat} (kt : KeyTxt X.env.scope params body scope x y k) (hN : X.N[j]? = some x) (hr : Room l X.A) : CallLam X "max" params body scope (rMaxKey X.K j k) := by
  intro pins s σ H vs us f c' pm ctv Q I r ho hc h
  obtain ⟨p, sp, ns, ts, key, rfl, hp, hne, hlt, hσ, hL, hk, q⟩ := h
  cases r with
  | cons r1 r2 =>
    cases r2
    obtain rfl : _ = Value.ref p := r1
    obtain ⟨its, rl, pl, hz⟩ := I.list hp
    have hln := rl.length
    rw [List.length_map] at hln
    have at_ : ∀ (i : Nat) (v : Value), its.toArray[i]? = some v → ∃ t, v = .int (ns.getD i 0 : Int) t ∧ ns.getD i 0 ∈ ns := fun i v e => by
      have e' : its[i]? = some v := by simpa using e
      have hi : i < ns.length := by
        rw [hln]
        exact (List.getElem?_eq_some_iff.mp e').1
      obtain ⟨u, hu, ru⟩ := rl.get (i := i) (x := .int (ns[i] : Nat)) (by rw [List.getElem?_map, List.getElem?_eq_getElem hi]; rfl)
      rw [e'] at hu
      cases hu
      obtain ⟨t, rfl⟩ := ru
      have eg : ns.getD i 0 = ns[i] := by rw [List.getD_eq_getElem?_getD, List.getElem?_eq_getElem hi]; rfl
      rw [eg]
      exact ⟨t, rfl, List.getElem_mem hi⟩
    show wpAny _ _ (call (.builtin "max") [.ref p] [(Str.ofString "key", .ref f)]) _ _ _
    refine max_key_list (fun i => key (ns.getD i 0)) (fun i => ((ns.getD i 0 : Nat) : Int)) hr.hd pl.isList ?_ (by have := hr.un; omega) (fun i v hv g tk kp => ?_) fun v h' tk hv k1 => ?_
    · rw [List.size_toArray, ← hln]
      exact List.length_pos_iff.mpr hne
    · obtain ⟨t, e, hm⟩ := at_ i v hv
      exact key_in I kt ho hc hN hσ hL (hk _ hm) (hlt _ hm) ⟨t, e⟩ (by have := hr.dp; show X.A.depth < _; omega) g tk kp
    · obtain ⟨t, e, _⟩ := at_ _ v hv
      rw [List.size_toArray, ← hln] at e
      exact ⟨.int _, H, I.kept k1, ⟨t, e⟩, q⟩
end
end Rm

/-! the end of a specification's row where defs of the program make lambdas: their code objects' tables are tracked from the start -/
namespace Rm
open PySem PySem.Spec PyProof.Rows L2 LamX
open PySem.W (WData Codec OpenSpec Well WellAll ReadsW)
/-- what is tracked at the call: the arguments' objects (H0) and the empty tables at Ps -/
def plusTabs (Ps : List Addr) (H0 : Hp) : Hp := fun b => if b ∈ Ps then some (.tbl #[]) else H0 b
theorem plus_in {Ps : List Addr} {H0 : Hp} {b : Addr} (h : b ∈ Ps) : plusTabs Ps H0 b = some (.tbl #[]) := if_pos h
theorem plus_out {Ps : List Addr} {H0 : Hp} {b : Addr} (h : b ∉ Ps) : plusTabs Ps H0 b = H0 b := if_neg h
abbrev emptyTab : Obj := { cls := .none, data := .fields #[] }
/-- the head's facts that a call needs -/
structure AtHead (K : PySem.W.Frag) (mg : Str → Option Value) (h : Heap) (cs : List (Addr × Addr)) : Prop where
  kin : K.In h
  glob : h.Ns mainGlobals mg
  blt : ∃ mb, h.Ns builtinsNs mb ∧ ∀ x : Str, x ≠ "__name__" → mb x = bootBuiltins x
  nolimit : h.NoLimit
  bm : ∃ (bm : Addr) (ob : Obj), mg "__builtins__" = some (.ref bm) ∧ bm ≠ builtinsNs ∧ h.get? bm = some ob ∧ ob.cls = .type "module" ∧ ob.dict = some builtinsNs ∧ ob.data = .plain
  tabs : ∀ p ∈ cs, h.get? p.2 = some emptyTab
  free : ∀ p ∈ cs, K.lookup p.2 = none
  code : ∀ p ∈ cs, PySem.W.CodeHd h p.1 p.2
section
variable {P : Program} {w : World} {K : PySem.W.Frag} {mg : Str → Option Value} {h : Heap} {cs : List (Addr × Addr)} {A : List Addr}
theorem AtHead.at_ (T : AtHead K mg h cs) {b : Addr} (hb : b ∈ cs.map (·.2)) : h.get? b = some emptyTab ∧ K.lookup b = none := by
  obtain ⟨p, hp, rfl⟩ := List.mem_map.mp hb
  exact ⟨T.tabs p hp, T.free p hp⟩
/-- the tracked heap of a call -/
abbrev H1of (K : PySem.W.Frag) (h : Heap) (cs : List (Addr × Addr)) (A : List Addr) : Hp := plusTabs (cs.map (·.2)) (argH K h A)
theorem H1_is (T : AtHead K mg h cs) (ar : ∀ a ∈ A, ArgOb h A a) {b : Addr} {u : HO} (e : H1of K h cs A b = some u) : K.lookup b = none ∧ ((b ∈ cs.map (·.2) ∧ u = .tbl #[]) ∨ ∃ o vs n z, h.get? b = some o ∧ o.data = .seq vs n ∧ u = .frz o z) := by
  by_cases hb : b ∈ cs.map (·.2)
  · rw [H1of, plus_in hb] at e
    exact ⟨(T.at_ hb).2, .inl ⟨hb, (Option.some.inj e).symm⟩⟩
  · rw [H1of, plus_out hb] at e
    obtain ⟨k, vs, _, _, z⟩ := argH_is ar e
    rcases z with ⟨e1, e2⟩ | ⟨e1, e2⟩ <;> exact ⟨k, .inr ⟨_, _, _, _, e1, rfl, e2⟩⟩
theorem H1_none (T : AtHead K mg h cs) (ar : ∀ a ∈ A, ArgOb h A a) {b : Addr} {o : Obj} (e : h.get? b = some o) (n1 : ∀ vs n, o.data ≠ .seq vs n) (n2 : o.data ≠ .fields #[]) : H1of K h cs A b = none := by
  cases q : H1of K h cs A b with
  | none => rfl
  | some u =>
    obtain ⟨_, z⟩ := H1_is T ar q
    rcases z with ⟨hb, _⟩ | ⟨o2, vs, n, _, e2, d, _⟩
    · rw [(T.at_ hb).1] at e
      cases e
      exact absurd rfl n2
    · rw [e] at e2
      cases e2
      exact absurd d (n1 _ _)
theorem H1_ok (T : AtHead K mg h cs) (ar : ∀ a ∈ A, ArgOb h A a) : HOk P w (H1of K h cs A) h := by
  intro b u e
  by_cases hb : b ∈ cs.map (·.2)
  · rw [H1of, plus_in hb] at e
    cases e
    exact (T.at_ hb).1
  · rw [H1of, plus_out hb] at e
    refine (argH_ok (P := P) (w := w) ar b u e).stay (fun _ _ _ q => q) (fun d q => ?_) fun d xs q => ?_
    · rcases argH_only ar d with z | ⟨_, _, z⟩ <;> rw [z] at q <;> cases q
    · rcases argH_only ar d with z | ⟨_, _, z⟩ <;> rw [z] at q <;> cases q
theorem H1_keep (T : AtHead K mg h cs) (ar : ∀ a ∈ A, ArgOb h A a) {b : Addr} {o : Obj} {u : HO} (e : argH K h A b = some (.frz o u)) : H1of K h cs A b = some (.frz o u) := by
  by_cases hb : b ∈ cs.map (·.2)
  · obtain ⟨_, vs, _, _, z⟩ := argH_is ar e
    have q := (T.at_ hb).1
    rcases z with ⟨e1, _⟩ | ⟨e1, _⟩ <;> rw [e1] at q <;> cases q
  · rw [H1of, plus_out hb]
    exact e
/-- the base below a call: the heap without what is tracked -/
theorem base_ns (T : AtHead K mg h cs) (ar : ∀ a ∈ A, ArgOb h A a) {b : Addr} {m : Str → Option Value} (x : h.Ns b m) : (hidT h (H1of K h cs A)).Ns b m := by
  obtain ⟨o, es, ep, e, d, r⟩ := x
  exact ⟨o, es, ep, hidT_get e (H1_none T ar e (fun vs n z => by rw [d] at z; cases z) (fun z => by rw [d] at z; cases z)), d, r⟩
theorem base_kin (T : AtHead K mg h cs) (ar : ∀ a ∈ A, ArgOb h A a) : K.In (hidT h (H1of K h cs A)) := fun b o e => by
  refine hidT_get (T.kin b o e) ?_
  cases q : H1of K h cs A b with
  | none => rfl
  | some u =>
    have z := (H1_is T ar q).1
    rw [e] at z
    cases z
theorem base_tab (T : AtHead K mg h cs) (ar : ∀ a ∈ A, ArgOb h A a) : ∀ p ∈ cs, TabB (hidT h (H1of K h cs A)) mg p.1 p.2 := fun p hp => by
  obtain ⟨og, es, ep, eg, dg, _⟩ := id T.glob
  have tp := T.tabs p hp
  have nG : mainGlobals ≠ p.2 := fun z => by
    rw [z, tp] at eg
    cases eg
    cases dg
  constructor
  · obtain ⟨o, us, x1, x2, x3, x4, x5, x6, x7, e, r1, r2, r3, r⟩ := T.code p hp
    refine ⟨o, us, x1, x2, x3, x4, x5, x6, x7, hidT_get e (H1_none T ar e (fun vs n z => by rw [r2] at z; cases z) fun z => ?_), r1, r2, r3, r⟩
    rw [r2] at z
    cases z
    simp at r3
  · obtain ⟨bm, ob, b1, b2, b3, b4, b5, b6⟩ := T.bm
    refine ⟨bm, ob, b1, b2, fun z => ?_, fun z => ?_, hidT_get b3 (H1_none T ar b3 (fun vs n z => by rw [b6] at z; cases z) (fun z => by rw [b6] at z; cases z)), b4, b5, b6⟩
    · rw [z, eg] at b3
      cases b3
      rw [dg] at b6
      cases b6
    · rw [z, tp] at b3
      cases b3
      cases b6
  · exact nG
theorem base_mod (T : AtHead K mg h cs) (ar : ∀ a ∈ A, ArgOb h A a) : Mod K mg (hidT h (H1of K h cs A)) := by
  obtain ⟨mb, h1, h2⟩ := T.blt
  obtain ⟨mc, h3, h4⟩ := T.nolimit
  exact ⟨base_kin T ar, base_ns T ar T.glob, ⟨mb, base_ns T ar h1, h2⟩, mc, base_ns T ar h3, h4⟩
/-- what the def's promise is asked at: the arguments' objects, known to the object; the tables, empty -/
def Start (K : PySem.W.Frag) (cs : List (Addr × Addr)) (H : Hp) (xs : List V) (ds : List WData) : Prop :=
  (∀ p ∈ cs, H p.2 = some (.tbl #[])) ∧ (∀ b, H b = none ∨ b ∈ cs.map (·.2) ∨ ∃ o u, H b = some (.frz o u)) ∧ ∃ H0 : Hp, OnlyF H0 ∧ (∀ b o u, H0 b = some (.frz o u) → H b = some (.frz o u)) ∧ DwAll K H0 xs ds
theorem end_call {CX : CXT} {k : Nat} {fa : Addr} {fd : FuncData} {ps : List Str} {sp : Sp} {s : Shared} {vals : List Value} {ds : List WData} {R : PySem.W.WRecords} {cl : Str → Option Addr} {d0 : WData} (T : AtHead K mg s.heap cs) (hg : s.gens = #[])
    (hwl : WellAll w.params s.heap vals ds) (hpl : plWs ds = true) (hwt : ∀ d ∈ ds, d.weight ≤ 1048576) (hr : Room k callerA)
    (F : ∀ base : Heap, K.In base → base.Ns mainGlobals mg → (∀ p ∈ cs, TabB base mg p.1 p.2) → FnOk P w K mg base CX k fa fd ps sp) (hbind : ∀ (s : Shared) (us : List Value), us.length = ps.length → BindsTo s fd ⟨us, []⟩ (ps.zip us)) (hlen : ds.length = ps.length)
    (hsp : ∀ (H : Hp) (xs : List V), Start K cs H xs ds → sp xs H (fun v H' => Dw K H' v d0) fun _ _ _ => False) (hCX : ∀ H e s', CX [] H s (fun _ _ _ => False) e s' → False) :
    codeAny (model P w) callerA (.call (.ref fa) ⟨vals, []⟩) (fun r s' => ∃ u as, r = .ok (.ret u) ∧ ReadsW R cl s'.heap u d0 as ∧ OldK s.heap s'.heap ∧ s'.os = s.os ∧ AllBare s'.gens) s := by
  obtain ⟨A, ho, ar⟩ := area_all ds vals hwl hpl hwt
  have ok : HOk P w (H1of K s.heap cs A) s.heap := H1_ok T ar
  have env : Env0 P w K mg (hidT s.heap (H1of K s.heap cs A)) callerA [] s (H1of K s.heap cs A) :=
    { frames := rfl
      mod := base_mod T ar
      bs := fun b o e => of_hidT e
      bsz := Nat.le_of_eq (hidT_size _ _)
      funs := trivial
      frf := fun b hb => nomatch (show b ∈ ([] : List Addr) from hb)
      hok := ok
      bare := .of_eq hg }
  have hl : vals.length = ps.length := (wellAll_len hwl).trans hlen
  have start : Start K cs (H1of K s.heap cs A) (vals.map toV) ds := by
    refine ⟨fun p hp => plus_in (List.mem_map.mpr ⟨p, hp, rfl⟩), fun b => ?_, argH K s.heap A, argH_only ar, fun b o u e => H1_keep T ar e, dw_all T.kin ar ds vals hwl hpl ho⟩
    cases q : H1of K s.heap cs A b with
    | none => exact .inl rfl
    | some u =>
      rcases (H1_is T ar q).2 with ⟨z, _⟩ | ⟨o, _, _, z, _, _, e⟩
      · exact .inr (.inl z)
      · exact .inr (.inr ⟨o, z, by rw [e]⟩)
  have main := (F _ (base_kin T ar) (base_ns T ar T.glob) (base_tab T ar)).run callerA [] s _ ⟨vals, []⟩ vals (vals.map toV) _ _ hr env (hbind s vals hl) (vals_toV ho) (hsp _ _ start)
  refine codeAny_mono main fun r s' x => ?_
  match r, x with
  | .error e, x => exact (hCX _ e s' x).elim
  | .ok (.ret u), x =>
    obtain ⟨v, H', os, bare, un, ok', rv, q⟩ := x
    have kept : ∀ b o, b ∉ cs.map (·.2) → s.heap.get? b = some o → s'.heap.get? b = some o := fun b o nb e => by
      rcases start.2.1 b with z | z | ⟨ob, u2, z⟩
      · exact un.keep b o e z (fun y => nomatch (show b ∈ ([] : List Addr) from y)) (by simp)
      · exact absurd z nb
      · have y1 := (ok b _ z).1
        have y2 := (ok' b _ (un.frzs b ob _ z)).1
        rw [e] at y1
        rw [y2, ← y1]
    have grown : ∀ b, b ∈ cs.map (·.2) → ∃ more : Array Value, s'.heap.get? b = some { cls := .none, data := .fields more } := fun b hb => by
      obtain ⟨more, z⟩ := un.tbls b #[] (plus_in hb)
      exact ⟨_, ok' b _ z⟩
    have kin' : K.In s'.heap := fun b o e => kept b o (fun hb => by
      have z := (T.at_ hb).2
      rw [e] at z
      cases z) (T.kin b o e)
    obtain ⟨as, rd⟩ := Dw.reads (R := R) (cl := cl) ok' kin' d0 v u q rv
    refine ⟨u, as, rfl, rd, ⟨fun b o e => ?_, fun b o e => ?_⟩, os, bare⟩
    · by_cases hb : b ∈ cs.map (·.2)
      · obtain ⟨more, hm⟩ := grown b hb
        have z := (T.at_ hb).1
        rw [e] at z
        cases z
        obtain ⟨p, hp, rfl⟩ := List.mem_map.mp hb
        exact .inr (.inl ⟨((T.code p hp).tab (T.tabs p hp)).isCodeTable, rfl, #[], more, rfl, by rw [Array.empty_append]; exact hm⟩)
      · exact .inl (kept b o hb e)
    · by_cases hb : b ∈ cs.map (·.2)
      · obtain ⟨more, hm⟩ := grown b hb
        exact ⟨_, hm⟩
      · exact ⟨o, kept b o hb e⟩
end
/-- the row's goal behind its head -/
theorem end_row {r : OpenSpec} {k : Nat} {q : Program} {loose : List Str} {XP : (Str → Option Value) → Heap → Prop} {YP : World → Heap → Prop} {d : DefRec} {K : Params → PySem.W.Frag} {CX : CXT} {ps : List Str} {sp : PySem.W.Frag → Sp} {cs : Params → List (Addr × Addr)}
    (hwell : r.wellSaid = true) (hlen : r.args.length = ps.length) (hr : Room k callerA) (hY : ∀ (w : World) (h : Heap), YP w h → (K w.params).In h)
    (hcs : ∀ (w : World) (mean : ExcName → Option Value) (mg mb : Str → Option Value) (h : Heap), YP w h → (K w.params).In h → PyProof.Rows.Top q (PySem.W.looseW q loose) mean mg mb h → (∀ p ∈ cs w.params, PySem.W.CodeHd h p.1 p.2 ∧ h.get? p.2 = some emptyTab) ∧ ∀ p ∈ cs w.params, (K w.params).lookup p.2 = none)
    (F : ∀ (w : World) (mg : Str → Option Value) (fa : Addr) (h : Heap), (K w.params).In h → h.Ns mainGlobals mg → mg d.name = some (.ref fa) →
      ∃ fd : FuncData, (∀ (s : Shared) (us : List Value), us.length = ps.length → BindsTo s fd ⟨us, []⟩ (ps.zip us)) ∧
        ∀ base : Heap, (K w.params).In base → base.Ns mainGlobals mg → (∀ p ∈ cs w.params, TabB base mg p.1 p.2) → FnOk r.prog w (K w.params) mg base CX k fa fd ps (sp (K w.params)))
    (hsp : ∀ (w : World) (H : Hp) (xs : List V) (a : Codec.denoteAll r.args), Codec.withinAll r.args a = true → Codec.app r.args r.asked a = true → Start (K w.params) (cs w.params) H xs (Codec.encAll r.args a) →
      sp (K w.params) xs H (fun v H' => Dw (K w.params) H' v (r.ret.enc (Codec.app r.args r.f a))) fun _ _ _ => False)
    (hCX : ∀ (H : Hp) (s : Shared) (e : Value) (s' : Shared), CX [] H s (fun _ _ _ => False) e s' → False) : PySem.W.WalkOS q loose XP YP r d [] (fun f vs => PySem.call f vs) := by
  intro w s₀ s₁ mg mb G Y fa o pm cd doc dV kV ho hd hcd hD hmg hg args vals as hpre hlay hrd hwl hlo
  obtain ⟨a, e1, e2⟩ := PySem.W.os_pre_some hpre
  obtain ⟨rfl, hwi⟩ := Codec.encAll_of_decAll r.args args a e1
  have KX := hY w _ Y
  obtain ⟨fd, hb, hF⟩ := F w mg fa _ KX G.T.g hmg
  obtain ⟨t1, t2⟩ := hcs w _ mg mb _ Y KX G.T
  have T : AtHead (K w.params) mg s₁.heap (cs w.params) := ⟨KX, G.T.g, ⟨mb, G.T.b, G.T.builtins⟩, G.T.nolimit, G.T.bmain, fun p hp => (t1 p hp).2, t2, fun p hp => (t1 p hp).1⟩
  refine PySem.W.enter_call (codeAny_mono (end_call (R := []) (cl := classAt s₀.heap) (d0 := r.ret.enc (Codec.app r.args r.f a)) T hg hwl (pl_encAll _ _) (layable_weight hlay) hr hF hb ((encAll_len _ _).trans hlen)
    (fun H xs hS => hsp w H xs a hwi e2 hS) fun H e s' => hCX H s₁ e s') fun r' s' hq => ?_)
  obtain ⟨u, as', rfl, h1, h2, h3, h4⟩ := hq
  exact ⟨.inl ⟨u, _, as', rfl, fun _ => rfl, h1, (OpenSpec.post_iff hwell hwi _ _).mpr rfl, fun z => Bool.noConfusion (show false = true from z)⟩, h2, h3, h4⟩
end Rm

/-! the program's defs: s05_places -/
namespace Rm
open PySem PySem.Spec PyProof.Rows L2 LamX
open Ks439 (Stay stay inOrder letIn there)
/-! ### the text -/
abbrev prog : Program := PySem.Challenge.pw_roomstays_s05_places
def topS (i : Nat) : Stmt := prog.main.body.getD i (.Pass ⟨0, 0, 0, 0⟩)
abbrev sRef : Stmt := topS 3
abbrev sAre : Stmt := topS 4
abbrev sPairs : Stmt := topS 5
abbrev sTurn : Stmt := topS 6
abbrev sThose : Stmt := topS 7
abbrev sLast : Stmt := topS 8
abbrev sWho : Stmt := topS 9
abbrev sPl : Stmt := topS 10
theorem scRef : FnScope [] [] (defScope sRef) := ⟨rfl, rfl, rfl, by decide +kernel, rfl, by decide +kernel, by decide +kernel⟩
theorem scAre : FnScope ["stays", "first", "until"] ["stays"] (defScope sAre) := ⟨rfl, rfl, rfl, by decide +kernel, rfl, by decide +kernel, by decide +kernel⟩
theorem scPairs : FnScope ["stays", "at"] ["stays"] (defScope sPairs) := ⟨rfl, rfl, rfl, by decide +kernel, rfl, by decide +kernel, by decide +kernel⟩
theorem scTurn : FnScope ["spans"] ["spans"] (defScope sTurn) := ⟨rfl, rfl, rfl, by decide +kernel, rfl, by decide +kernel, by decide +kernel⟩
theorem scThose : FnScope ["hour", "numbers", "spans", "number"] ["hour", "numbers", "spans"] (defScope sThose) := ⟨rfl, rfl, rfl, by decide +kernel, rfl, by decide +kernel, by decide +kernel⟩
theorem scLast : FnScope ["numbers", "spans"] ["numbers", "spans"] (defScope sLast) := ⟨rfl, rfl, rfl, by decide +kernel, rfl, by decide +kernel, by decide +kernel⟩
theorem scWho : FnScope ["room", "spans", "inside", "number", "there"] ["room", "spans"] (defScope sWho) := ⟨rfl, rfl, rfl, by decide +kernel, rfl, by decide +kernel, by decide +kernel⟩
theorem scPl : FnScope ["stays", "spans", "let_in", "room"] ["stays"] (defScope sPl) := ⟨rfl, rfl, rfl, by decide +kernel, rfl, by decide +kernel, by decide +kernel⟩
end Rm

namespace Rm
open PySem PySem.Spec PyProof.Rows L2 LamX
open Ks439 (Stay stay inOrder letIn there)
/-! ### the heap behind a call: all but tables stands, the tables are well told -/
def Ex (T : List (Addr × Str)) (H H' : Hp) : Prop := ExtN H H' ∧ (Tabs T H → Tabs T H')
theorem Ex.refl (T : List (Addr × Str)) (H : Hp) : Ex T H H := ⟨ExtN.refl H, fun t => t⟩
theorem Ex.of {T : List (Addr × Str)} {H H' : Hp} (e : ∀ b o, H b = some o → H' b = some o) : Ex T H H' := ⟨ExtN.of e, fun t => t.ext e⟩
theorem Ex.trans {T : List (Addr × Str)} {H H1 H2 : Hp} (a : Ex T H H1) (b : Ex T H1 H2) : Ex T H H2 := ⟨a.1.trans b.1, fun t => b.2 (a.2 t)⟩
theorem Ex.new {T : List (Addr × Str)} {H : Hp} {p : Addr} {o : HO} (n : H p = none) : Ex T H (upd H p o) := Ex.of fun b u e => (upd_ne (ne_of_none e n)).trans e
theorem Ex.lst {T : List (Addr × Str)} {H H' : Hp} {p : Addr} {xs : List V} (e : Ex T H H') (h : H p = some (.lst xs)) : H' p = some (.lst xs) := e.1 _ _ h fun _ z => by cases z
theorem tabs_lst {T : List (Addr × Str)} {H : Hp} {D : Addr} {xs ys : List V} (h : H D = some (.lst xs)) (t : Tabs T H) : Tabs T (upd H D (.lst ys)) := fun p hp => by
  obtain ⟨ps, h1, h2, h3⟩ := t p hp
  refine ⟨ps, (upd_ne (ne_of h1 h (fun z => by cases z))).trans h1, h2, fun pos cv hc => ?_⟩
  obtain ⟨c, e1, e2⟩ := h3 pos cv hc
  exact ⟨c, e1, (upd_ne (ne_of e2 h (fun z => by unfold CodeO at z; cases z))).trans e2⟩
/-- a list of the def's own is written -/
theorem Ex.write {T : List (Addr × Str)} {H H1 : Hp} {D : Addr} {xs ys : List V} (e : Ex T H H1) (n : H D = none) (h : H1 D = some (.lst xs)) : Ex T H (upd H1 D (.lst ys)) :=
  ⟨fun b o q z => (upd_ne (ne_of_none q n)).trans (e.1 b o q z), fun t => tabs_lst h (e.2 t)⟩
/-- nothing but a table stands there -/
def Fresh (H : Hp) (p : Addr) : Prop := ∀ b o, H b = some o → (∀ ps, o ≠ .tbl ps) → b ≠ p
theorem Fresh.of {H : Hp} {p : Addr} (n : H p = none) : Fresh H p := fun _ _ e _ => ne_of_none e n
theorem Fresh.back {H H1 : Hp} {p : Addr} (e : ExtN H H1) (f : Fresh H1 p) : Fresh H p := fun b o h n => f b o (e b o h n) n
theorem seq_ext {K : PySem.W.Frag} {H H' : Hp} {a : Addr} {xs : List V} (h : SqL K H a xs) (e : ExtN H H') : SqL K H' a xs := by
  rcases h with (h | ⟨o, h⟩) | h
  · exact .inl (.inl (e _ _ h fun _ z => by cases z))
  · exact .inl (.inr ⟨o, e _ _ h fun _ z => by cases z⟩)
  · exact .inr h
theorem tup_ext {K : PySem.W.Frag} {H H' : Hp} {a : Addr} {xs : List V} (h : SqT K H a xs) (e : ExtN H H') : SqT K H' a xs := by
  rcases h with (h | ⟨o, h⟩) | h
  · exact .inl (.inl (e _ _ h fun _ z => by cases z))
  · exact .inl (.inr ⟨o, e _ _ h fun _ z => by cases z⟩)
  · exact .inr h
/-- the stays as a list of tuples -/
def Spans (K : PySem.W.Frag) (H : Hp) (a : Addr) (l : List Stay) : Prop :=
  ∃ ts : List Addr, SqL K H a (ts.map V.ref) ∧ ts.length = l.length ∧ ∀ (i : Nat) (t : Addr) (x : Stay), ts[i]? = some t → l[i]? = some x → SqT K H t [.int x.from_, .int x.to_]
theorem Spans.ext {K : PySem.W.Frag} {H H' : Hp} {a : Addr} {l : List Stay} (h : Spans K H a l) (e : ExtN H H') : Spans K H' a l := by
  obtain ⟨ts, h1, h2, h3⟩ := h
  exact ⟨ts, seq_ext h1 e, h2, fun i t x e1 e2 => tup_ext (h3 i t x e1 e2) e⟩
theorem stay_at {l : List Stay} {i : Nat} (h : i < l.length) : l[i]? = some (stay l i) := by
  unfold Ks439.stay
  rw [List.getD_eq_getElem?_getD, List.getElem?_eq_getElem h]
  rfl
/-- a number's tuple -/
theorem Spans.at_ {K : PySem.W.Frag} {H : Hp} {a : Addr} {l : List Stay} {i : Nat} (h : Spans K H a l) (hi : i < l.length) :
    ∃ (xs : List V) (t : Addr), SqL K H a xs ∧ atI xs (i : Int) = some (.ref t) ∧ SqT K H t [.int (stay l i).from_, .int (stay l i).to_] := by
  obtain ⟨ts, h1, h2, h3⟩ := h
  have hi' : i < ts.length := by omega
  refine ⟨_, ts[i], h1, atI_nat ?_, h3 i _ _ (List.getElem?_eq_getElem hi') (stay_at hi)⟩
  rw [List.getElem?_map, List.getElem?_eq_getElem hi']
  rfl
abbrev iV (l : List Nat) : List V := l.map fun i => V.int (i : Nat)
theorem iV_len (l : List Nat) : (iV l).length = l.length := List.length_map _
theorem iV_snoc (l : List Nat) (n : Nat) : iV l ++ [V.int (n : Nat)] = iV (l ++ [n]) := by
  unfold iV
  rw [List.map_append]
  rfl
theorem iV_at {l : List Nat} {i n : Nat} (h : l[i]? = some n) : (iV l)[i]? = some (.int (n : Nat)) := by
  rw [List.getElem?_map, h]
  rfl
theorem at_iV {l : List Nat} {i : Nat} {v : V} (h : (iV l)[i]? = some v) : ∃ n, l[i]? = some n ∧ v = .int (n : Nat) := by
  rw [List.getElem?_map] at h
  cases e : l[i]? with
  | none =>
    rw [e] at h
    cases h
  | some n =>
    rw [e] at h
    exact ⟨n, rfl, (Option.some.inj h).symm⟩
theorem small_line {n : Nat} (h : n ≤ 1000) : n < sizeLine := by
  have e := sizeLine_eq
  omega
section
variable {P : Program} {w : World} {K : PySem.W.Frag} {mg : Str → Option Value} {base : Heap} {T : List (Addr × Str)}
/-! ### refusal() -/
def spRef (T : List (Addr × Str)) : Sp := fun vs H Q _ => vs = [] ∧ ∀ H' p, Ex T H H' → Fresh H p → H' p = some (.lst [.int (-22)]) → Q (.ref p) H'
theorem ok_ref {f : Addr} {fd : FuncData} {k : Nat} (F : Fun K "refusal" "refusal" sRef f fd) : FnOk P w K mg base CX0 (k + 1) f fd [] (spRef T) := by
  refine F.ok scRef (fun vs H Q E h => ?_) (fun cdv A outer s H vs Q E hr h => ?_)
  · obtain ⟨rfl, _⟩ := h
    rfl
  · obtain ⟨rfl, q⟩ := h
    refine ⟨_, pss_one (ps_ret (pe_lst (pa_cons (pe_un un_neg pe_int) pa_nil))), ?_⟩
    refine ⟨22, rfl, (by show 1 ≤ sizeLine; decide), fun l hl => ?_⟩
    exact q _ l (Ex.new hl) (Fresh.of hl) upd_same
/-! ### pairs(stays) -/
def spPairs (K : PySem.W.Frag) (T : List (Addr × Str)) : Sp := fun vs H Q _ => ∃ (a : Addr) (ns : List Int), vs = [.ref a] ∧ SqL K H a (ns.map V.int) ∧ ns.length % 2 = 0 ∧ ns.length ≤ 24 ∧ (∀ x ∈ ns, 0 ≤ x) ∧
  ∀ H' p, Ex T H H' → Fresh H p → Spans K H' p (sts ns) → Q (.ref p) H'
theorem range_two : ∀ m : Fin 13, Builtin.Range.small 0 (2 * (m.val : Int)) 2 = true ∧ Builtin.Range.rangeSize 0 (2 * (m.val : Int)) 2 = (m.val : Int) := by decide +kernel
theorem ok_pairs {f : Addr} {fd : FuncData} {k : Nat} (F : Fun K "pairs" "pairs" sPairs f fd) (ml : mg "len" = none) (mr : mg "range" = none) : FnOk P w K mg base CX0 (k + 1) f fd ["stays"] (spPairs K T) := by
  refine F.ok scPairs (fun vs H Q E h => ?_) (fun cdv A outer s H vs Q E hr h => ?_)
  · obtain ⟨a, ns, rfl, _⟩ := h
    rfl
  · obtain ⟨a, ns, rfl, hS, he, hlen, hpos, q⟩ := h
    refine ⟨_, pss_one (ps_ret (pe_lc (own := [("at", 1)]) (g := gName 1) (tt := tYes) rfl scPairs.nd
      (pi_range3 (by rfl) mr (pa_cons pe_int (pa_cons (pe_callB call_len_seq (by rfl) ml PySem.boot_len (pa_cons (pv 0) pa_nil)) (pa_cons pe_int pa_nil))))
      (blkOk_by (N := ["stays", "at"]) (sc := defScope sPairs) (by decide +kernel)) (fun _ _ _ _ _ => pg_name (i := 1) scPairs.nd rfl (Or.inl rfl)) (fun _ _ _ _ _ => pts_nil)
      (fun _ _ _ _ _ => pe_tup (pa_cons (pe_ix (r := rIxL K) ix_list (pv 0) (pv 1) (fun _ _ => rfl)) (pa_cons (pe_ix (r := rIxL K) ix_list (pv 0) (pe_op op_add (pv 1) pe_int) (fun _ _ => rfl)) pa_nil))))), ?_⟩
    obtain ⟨m, hm⟩ : ∃ m, ns.length = 2 * m := ⟨ns.length / 2, by omega⟩
    have hr2 := range_two ⟨m, by omega⟩
    have el : ((ns.map V.int).length : Int) = 2 * (m : Int) := by
      rw [List.length_map, hm]
      omega
    refine ⟨_, rfl, a, _, rfl, .inl hS, 0, _, 2, m, rfl, ?_, fun D hD => ?_⟩
    · rw [el]
      exact ⟨by decide, by decide, hr2.1, hr2.2⟩
    refine lc_it (walk_rangeC (lo := 0) (c := 2) (n := m)) (fun i H' => Ex T H H' ∧ ∃ ts : List Addr, H' D = some (.lst (ts.map V.ref)) ∧ ts.length = i ∧ ∀ (j : Nat) (t : Addr) (x : Stay), ts[j]? = some t → (sts ns)[j]? = some x → H' t = some (.tup [.int x.from_, .int x.to_]))
      ⟨Ex.new hD, [], upd_same, rfl, fun j t x e _ => by simp at e⟩ (fun _ _ _ _ => trivial) ?_ ?_
    · rintro i x H1 H2 hi ⟨ex, ts, hDl, htl, htt⟩ ⟨rfl, rfl⟩
      have hS1 : SqL K H2 a (ns.map V.int) := seq_ext hS ex.1
      have i1 : 2 * i < ns.length := by omega
      have i2 : 2 * i + 1 < ns.length := by omega
      refine ⟨rfl, ?_⟩
      unfold tYes
      dsimp only
      rw [if_pos rfl]
      have e1 : atI (ns.map V.int) (0 + (i : Nat) * 2) = some (.int ns[2 * i]) := by
        rw [show (0 : Int) + (i : Nat) * 2 = ((2 * i : Nat) : Int) by omega]
        refine atI_nat ?_
        rw [List.getElem?_map, List.getElem?_eq_getElem i1]
        rfl
      have e2 : atI (ns.map V.int) (0 + (i : Nat) * 2 + 1) = some (.int ns[2 * i + 1]) := by
        rw [show (0 : Int) + (i : Nat) * 2 + 1 = ((2 * i + 1 : Nat) : Int) by omega]
        refine atI_nat ?_
        rw [List.getElem?_map, List.getElem?_eq_getElem i2]
        rfl
      refine ⟨_, rfl, _, rfl, a, _, _, _, rfl, rfl, hS1, e1, _, rfl, _, rfl, _, _, rfl, rfl, a, _, _, _, rfl, rfl, hS1, e2, (by show 2 ≤ sizeLine; decide), fun t nt => ?_⟩
      have nD : D ≠ t := ne_of_none hDl nt
      refine ⟨ts.map V.ref, (upd_ne nD).trans hDl, ?_, ?_, ts ++ [t], ?_, ?_, ?_⟩
      · rw [List.length_map, htl]
        exact small_line (by omega)
      · exact (ex.trans (Ex.new nt)).write hD ((upd_ne nD).trans hDl)
      · rw [upd_same, List.map_append]
        rfl
      · rw [List.length_append, htl]
        rfl
      · intro j t' x e1' e2'
        by_cases hj : j < ts.length
        · rw [List.getElem?_append_left hj] at e1'
          have q1 := htt j t' x e1' e2'
          rw [upd_ne (ne_of q1 hDl (fun z => by cases z)), upd_ne (ne_of_none q1 nt)]
          exact q1
        · have hl1 : j < (ts ++ [t]).length := (List.getElem?_eq_some_iff.mp e1').1
          rw [List.length_append, List.length_singleton] at hl1
          have ej : j = ts.length := by omega
          rw [ej, List.getElem?_concat_length] at e1'
          have et : t = t' := Option.some.inj e1'
          rw [← et, upd_ne nD.symm, upd_same]
          have ex := sts_get (i := i) (List.getElem?_eq_getElem i1) (List.getElem?_eq_getElem i2)
          rw [ej, htl, ex] at e2'
          have ex2 := Option.some.inj e2'
          rw [← ex2]
          dsimp only
          rw [Int.toNat_of_nonneg (hpos _ (List.getElem_mem i1)), Int.toNat_of_nonneg (hpos _ (List.getElem_mem i2))]
    · rintro H' ⟨ex, ts, hDl, htl, htt⟩
      refine q H' D ex (Fresh.of hD) ⟨ts, SqL.of hDl, ?_, fun i t x e1 e2 => SqT.of (htt i t x e1 e2)⟩
      rw [htl, sts_len]
      omega
end
end Rm

namespace Rm
open PySem PySem.Spec PyProof.Rows L2 LamX
open Ks439 (Stay stay inOrder letIn there)
/-! ### a < b < c < d as a test -/
def tChain3 (r r2 r3 : R2) (ta tb tc td : TE) : TT := fun σ H Q => ta σ H fun x H1 => tb σ H1 fun y H2 => r x y H2 fun z H3 => ∃ k, z = .bl k ∧
  (if k = true then tc σ H3 fun u H4 => r2 y u H4 fun z2 H5 => ∃ k2, z2 = .bl k2 ∧ (if k2 = true then td σ H5 fun v H6 => r3 u v H6 fun z3 H7 => ∃ k3, z3 = .bl k3 ∧ Q k3 H7 else Q false H5) else Q false H3)
theorem pt_chain3 {X : Cx} {o1 o2 o3 : CmpOp} {r r2 r3 : R2} {a b c d : Expr} {ta tb tc td : TE} {pos : Pos} (h1 : OpR X (compareOp o1) r) (h2 : OpR X (compareOp o2) r2) (h3 : OpR X (compareOp o3) r3) (ha : PE X a ta) (hb : PE X b tb) (hc : PE X c tc) (hd : PE X d td)
    (hm : lastMarks [o1, o2, o3] [b, c, d] = false := by with_unfolding_all rfl) : PT X (.Compare a [o1, o2, o3] [b, c, d] pos) (tChain3 r r2 r3 ta tb tc td) := by
  constructor
  intro pins s σ H Q I h
  refine isTrue_chain (thn (ha.run pins s σ H _ I h) fun va sa A1 => ?_) hm
  obtain ⟨x, Ha, Ia, ra, qa⟩ := A1
  refine test_link (thn (hb.run pins sa σ Ha _ Ia qa) fun vb sb B1 => ?_)
  obtain ⟨y, Hb, Ib, rb, qb⟩ := B1
  refine thn (h1 pins sb σ Hb x y va vb _ Ib ra rb qb) fun vc s3 C1 => ?_
  obtain ⟨z, H3, I3, rz, k, rfl, q3⟩ := C1
  obtain rfl : vc = Value.bool k := rz
  refine wpAny_truthy_bool ?_
  match k, q3 with
  | false, q3 => exact ite_ff ⟨H3, I3, q3⟩
  | true, q3 =>
    refine ite_tt (test_link (thn (hc.run pins s3 σ H3 _ I3 q3) fun vu s4 D1 => ?_))
    obtain ⟨u, H4, I4, ru, q4⟩ := D1
    refine thn (h2 pins s4 σ H4 y u vb vu _ I4 rb ru q4) fun ve s5 E1 => ?_
    obtain ⟨z2, H5, I5, rz2, k2, rfl, q5⟩ := E1
    obtain rfl : ve = Value.bool k2 := rz2
    refine wpAny_truthy_bool ?_
    match k2, q5 with
    | false, q5 => exact ite_ff ⟨H5, I5, q5⟩
    | true, q5 =>
      refine ite_tt (test_last (thn (hd.run pins s5 σ H5 _ I5 q5) fun vv s6 F1 => ?_))
      obtain ⟨v, H6, I6, rv, q6⟩ := F1
      refine thn (h3 pins s6 σ H6 u v vu vv _ I6 ru rv q6) fun vg s7 G1 => ?_
      obtain ⟨z3, H7, I7, rz3, k3, rfl, q7⟩ := G1
      obtain rfl : vg = Value.bool k3 := rz3
      exact wpAny_truthy_bool ⟨H7, I7, q7⟩
section
variable {P : Program} {w : World} {K : PySem.W.Frag} {mg : Str → Option Value} {base : Heap} {T : List (Addr × Str)}
/-! ### are_stays(stays) -/
def spAre (K : PySem.W.Frag) (T : List (Addr × Str)) : Sp := fun vs H Q _ => ∃ (a : Addr) (ns : List Int), vs = [.ref a] ∧ SqL K H a (ns.map V.int) ∧ ns.length ≤ 24 ∧ (∀ x ∈ ns, 0 ≤ x) ∧ ∀ H', Ex T H H' → Q (.bl (okB ns)) H'
/-- the first i stays fit -/
theorem okB_false_at {ns : List Int} {i : Nat} {x : Stay} (h : (sts ns)[i]? = some x) (hx : fits x = false) : okB ns = false := by
  unfold okB
  have e : (sts ns).all fits = false := by
    rw [List.all_eq_false]
    exact ⟨x, List.mem_of_getElem? h, by rw [hx]; exact Bool.false_ne_true⟩
  rw [e, Bool.and_false]
theorem ok_are {f fP : Addr} {fd fdP : FuncData} {k : Nat} {t1 t2 : Tok} (F : Fun K "are_stays" "are_stays" sAre f fd) (GP : FnOk P w K mg base CX0 k fP fdP ["stays"] (spPairs K T)) (kpP : PySem.W.keepIn K (.ref fP) = true) (bP : Binds K fdP ["stays"] [])
    (gP : mg "pairs" = some (.ref fP)) (ml : mg "len" = none) (mS : mg "MOST_STAYS" = some (.int 10 t1)) (mH : mg "LAST_HOUR" = some (.int 24 t2)) : FnOk P w K mg base CX0 (k + 1) f fd ["stays"] (spAre K T) := by
  refine F.ok scAre (fun vs H Q E h => ?_) (fun cdv A outer s H vs Q E hr h => ?_)
  · obtain ⟨a, ns, rfl, _⟩ := h
    rfl
  · obtain ⟨a, ns, rfl, hS, hlen, hpos, q⟩ := h
    refine ⟨_, pss_cons (ps_if (PW.pt (pw_or (pt_cmpR op_ne (pe_op op_mod (pe_callB call_len_seq (by rfl) ml PySem.boot_len (pa_cons (pv 0) pa_nil)) pe_int) pe_int (nomark _))
          (pw_or1 (pt_cmpR op_gt (pe_callB call_len_seq (by rfl) ml PySem.boot_len (pa_cons (pv 0) pa_nil)) (pe_op op_mul pe_int (pe_glob (v := .int 10) (by rfl) mS ⟨_, rfl⟩)) (nomark _)))))
        (pss_one (ps_ret pe_bl)) pss_nil)
      (pss_cons (ps_for PassesOwn.never rfl (pi_list (pe_call GP hr (by rfl) gP kpP bP .nil pass0 (pa_cons (pv 0) pa_nil))) (pg_tup rfl (pgs_cons (pg_name (i := 1) scAre.nd rfl (.inl rfl)) (pgs_cons (pg_name (i := 2) scAre.nd rfl (.inl rfl)) pgs_nil)))
        (pss_one (ps_if (pt_not (pt_chain3 op_le op_lt op_le pe_int (pv 1) (pv 2) (pe_glob (v := .int 24) (by rfl) mH ⟨_, rfl⟩))) (pss_one (ps_ret pe_bl)) pss_nil)))
      (pss_one (ps_ret pe_bl))), ?_⟩
    have hl : ((ns.map V.int).length : Int) = (ns.length : Int) := by rw [List.length_map]
    -- len(stays) % 2 != 0
    refine ⟨.ref a, rfl, a, _, rfl, .inl hS, _, _, rfl, rfl, (by show (0 : Int) < 2; decide), rfl, _, rfl, ?_⟩
    rw [hl]
    by_cases he : ns.length % 2 = 0
    · have c : (!decide (V.int ((ns.length : Int) % 2) = V.int 0)) = false := by
        rw [show (ns.length : Int) % 2 = 0 by omega]
        rfl
      rw [c]
      refine iteF ?_
      -- len(stays) > 2 * MOST_STAYS
      refine ⟨.ref a, rfl, a, _, rfl, .inl hS, _, _, rfl, rfl, .inl ⟨by decide, by decide⟩, _, _, rfl, rfl, _, rfl, ?_⟩
      rw [hl]
      by_cases h20 : ns.length ≤ 20
      · rw [show decide ((2 : Int) * 10 < (ns.length : Int)) = false from decide_eq_false (by omega)]
        refine iteF ?_
        -- for first, until in pairs(stays)
        refine ⟨.ref a, rfl, a, ns, rfl, hS, he, hlen, hpos, fun H1 p ex fr hsp => ?_⟩
        obtain ⟨ts, hts, htl, htt⟩ := id hsp
        refine ⟨p, rfl, ⟨_, hts⟩, for_list (K := K) (a := p) (xs := ts.map V.ref) (fun i σ H2 => (∃ v1 v2, σ = [some (.ref a), v1, v2]) ∧ H2 = H1 ∧ ∀ j x, j < i → (sts ns)[j]? = some x → fits x = true)
          ⟨⟨none, none, rfl⟩, rfl, fun j x hj => absurd hj (Nat.not_lt_zero _)⟩ (fun i σ H2 _ ⟨_, e, _⟩ => by rw [e]; exact hts) ?_ ?_⟩
        · rintro i x σ H2 hi ⟨⟨v1, v2, rfl⟩, rfl, hb⟩
          rw [List.getElem?_map] at hi
          cases et : ts[i]? with
          | none =>
            rw [et] at hi
            cases hi
          | some t =>
            rw [et] at hi
            obtain rfl := (Option.some.inj hi).symm
            have hil : i < (sts ns).length := by
              rw [← htl]
              exact (List.getElem?_eq_some_iff.mp et).1
            have hx := List.getElem?_eq_getElem hil
            refine ⟨t, _, rfl, htt i t _ et hx, rfl, _, _, rfl, _, _, rfl, rfl, ?_⟩
            generalize (sts ns)[i] = y at hx
            -- 0 <= first < until <= LAST_HOUR
            refine ⟨_, rfl, _, _, rfl, rfl, _, rfl, ?_⟩
            rw [show decide ((0 : Int) ≤ (y.from_ : Int)) = true from decide_eq_true (by omega)]
            refine iteT ?_
            refine ⟨_, rfl, _, _, rfl, rfl, _, rfl, ?_⟩
            by_cases c1 : y.from_ < y.to_
            · rw [show decide ((y.from_ : Int) < (y.to_ : Int)) = true from decide_eq_true (by omega)]
              refine iteT ?_
              refine ⟨_, _, rfl, rfl, _, rfl, ?_⟩
              by_cases c2 : y.to_ ≤ 24
              · rw [show decide ((y.to_ : Int) ≤ 24) = true from decide_eq_true (by omega)]
                refine iteF ?_
                refine ⟨⟨_, _, rfl⟩, rfl, fun j z hj hz => ?_⟩
                by_cases hji : j = i
                · rw [hji, hx] at hz
                  obtain rfl := Option.some.inj hz
                  unfold fits
                  rw [decide_eq_true c1, decide_eq_true c2]
                  rfl
                · exact hb j z (by omega) hz
              · rw [show decide ((y.to_ : Int) ≤ 24) = false from decide_eq_false (by omega)]
                refine iteT ?_
                have e := okB_false_at hx (by unfold fits; rw [decide_eq_false c2, Bool.and_false])
                rw [e] at q
                exact q _ ex
            · rw [show decide ((y.from_ : Int) < (y.to_ : Int)) = false from decide_eq_false (by omega)]
              refine iteF ?_
              refine iteT ?_
              have e := okB_false_at hx (by unfold fits; rw [decide_eq_false c1, Bool.false_and])
              rw [e] at q
              exact q _ ex
        · rintro σ H2 ⟨_, rfl, hb⟩
          have e : okB ns = true := by
            unfold okB
            rw [decide_eq_true he, decide_eq_true h20]
            show (sts ns).all fits = true
            rw [List.all_eq_true]
            intro x hx
            obtain ⟨j, hj, ej⟩ := List.getElem_of_mem hx
            refine hb j x ?_ ?_
            · rw [List.length_map, htl]
              exact hj
            · rw [List.getElem?_eq_getElem hj, ej]
          rw [e] at q
          exact q _ ex
      · rw [show decide ((2 : Int) * 10 < (ns.length : Int)) = true from decide_eq_true (by omega)]
        refine iteT ?_
        have e : okB ns = false := by
          unfold okB
          rw [decide_eq_false h20, Bool.and_false, Bool.false_and]
        rw [e] at q
        exact q _ (Ex.refl T H)
    · have c : (!decide (V.int ((ns.length : Int) % 2) = V.int 0)) = true := by
        rw [show (ns.length : Int) % 2 = 1 by omega]
        rfl
      rw [c]
      refine iteT (iteT ?_)
      have e : okB ns = false := by
        unfold okB
        rw [decide_eq_false he, Bool.false_and, Bool.false_and]
      rw [e] at q
      exact q _ (Ex.refl T H)
end
end Rm

namespace Rm
open PySem PySem.Spec PyProof.Rows L2 LamX
open Ks439 (Stay stay inOrder letIn there)
/-- what len(xs) asks, and what it gives -/
abbrev rLn (K : PySem.W.Frag) : List V → Hp → VK → Prop := fun us G Q => ∃ p ys, us = [V.ref p] ∧ (SqL K G p ys ∨ SqT K G p ys) ∧ Q (.int ys.length) G
section
variable {P : Program} {w : World} {K : PySem.W.Frag} {mg : Str → Option Value} {base : Heap} {T : List (Addr × Str)}
/-! ### those_there(hour, numbers, spans) -/
def spThose (K : PySem.W.Frag) (T : List (Addr × Str)) : Sp := fun vs H Q _ => ∃ (h : Nat) (a sp : Addr) (ns : List Nat) (l : List Stay), vs = [.int (h : Nat), .ref a, .ref sp] ∧ SqL K H a (iV ns) ∧ Spans K H sp l ∧ ns.length ≤ 24 ∧ (∀ i ∈ ns, i < l.length) ∧
  ∀ H' p, Ex T H H' → Fresh H p → H' p = some (.lst (iV (ns.filter (there l h)))) → Q (.ref p) H'
theorem ok_those {f : Addr} {fd : FuncData} {k : Nat} (F : Fun K "those_there" "those_there" sThose f fd) : FnOk P w K mg base CX0 (k + 1) f fd ["hour", "numbers", "spans"] (spThose K T) := by
  refine F.ok scThose (fun vs H Q E h => ?_) (fun cdv A outer s H vs Q E hr h => ?_)
  · obtain ⟨h, a, sp, ns, l, rfl, _⟩ := h
    rfl
  · obtain ⟨h, a, sp, ns, l, rfl, hN, hS, hlen, hlt, q⟩ := h
    refine ⟨_, pss_one (ps_ret (pe_lc (own := [("number", 3)]) (g := gName 3) rfl scThose.nd (pi_list (pv 1)) (blkOk_by (N := ["hour", "numbers", "spans", "number"]) (sc := defScope sThose) (by decide +kernel))
      (fun _ _ _ _ _ => pg_name (i := 3) scThose.nd rfl (Or.inl rfl))
      (fun _ _ _ _ _ => pts_one (pt_chain op_le op_lt (pe_ix (r := rIxT K) ix_tup (pe_ix (r := rIxL K) ix_list (pv 2) (pv 3) (fun _ _ => rfl)) pe_int (fun _ _ => rfl)) (pv 0) (pe_ix (r := rIxT K) ix_tup (pe_ix (r := rIxL K) ix_list (pv 2) (pv 3) (fun _ _ => rfl)) pe_int (fun _ _ => rfl))))
      (fun _ _ _ _ _ => pv 3))), ?_⟩
    refine ⟨.ref a, rfl, a, rfl, ⟨_, hN⟩, fun D hD => ?_⟩
    refine lc_it (walk_list (K := K) (a := a) (xs := iV ns)) (fun i H' => Ex T H H' ∧ H' D = some (.lst (iV ((ns.take i).filter (there l h))))) ⟨Ex.new hD, upd_same⟩ (fun i H' _ p => seq_ext hN p.1.1) ?_ ?_
    · rintro i x H1 H2 hi ⟨ex, hDl⟩ ⟨rfl, hx⟩
      obtain ⟨n, en, rfl⟩ := at_iV hx
      have hnl : n < l.length := hlt n (List.mem_of_getElem? en)
      obtain ⟨xs, t, g1, g2, g3⟩ := (hS.ext ex.1).at_ hnl
      have etk : ns.take (i + 1) = ns.take i ++ [n] := by rw [List.take_add_one, en]; rfl
      refine ⟨rfl, ?_⟩
      refine ⟨_, rfl, _, rfl, sp, xs, _, _, rfl, rfl, g1, g2, t, _, _, _, rfl, rfl, g3, atI_nat (j := 0) rfl, _, rfl, _, _, rfl, rfl, _, rfl, ?_⟩
      by_cases c1 : (stay l n).from_ ≤ h
      · rw [show decide (((stay l n).from_ : Int) ≤ (h : Int)) = true from decide_eq_true (by omega)]
        refine iteT ?_
        refine ⟨_, rfl, _, rfl, sp, xs, _, _, rfl, rfl, g1, g2, t, _, _, _, rfl, rfl, g3, atI_nat (j := 1) rfl, _, _, rfl, rfl, _, rfl, ?_⟩
        by_cases c2 : h < (stay l n).to_
        · rw [show decide ((h : Int) < ((stay l n).to_ : Int)) = true from decide_eq_true (by omega)]
          refine iteT ?_
          have et : there l h n = true := by
            unfold Ks439.there
            rw [decide_eq_true c1, decide_eq_true c2]
            rfl
          refine ⟨_, rfl, _, hDl, ?_, ex.write hD hDl, ?_⟩
          · rw [iV_len]
            refine small_line (Nat.le_trans (List.length_filter_le _ _) ?_)
            rw [List.length_take]
            omega
          · rw [upd_same, etk, List.filter_append, List.filter_cons_of_pos et, List.filter_nil]
            exact congrArg (fun z => some (HO.lst z)) (iV_snoc _ n)
        · rw [show decide ((h : Int) < ((stay l n).to_ : Int)) = false from decide_eq_false (by omega)]
          refine iteF ⟨ex, ?_⟩
          have et : there l h n = false := by
            unfold Ks439.there
            rw [decide_eq_false c2, Bool.and_false]
          rw [etk, List.filter_append, List.filter_cons_of_neg (by rw [et]; exact Bool.false_ne_true), List.filter_nil, List.append_nil]
          exact hDl
      · rw [show decide (((stay l n).from_ : Int) ≤ (h : Int)) = false from decide_eq_false (by omega)]
        refine iteF ⟨_, rfl, iteF ⟨ex, ?_⟩⟩
        have et : there l h n = false := by
          unfold Ks439.there
          rw [decide_eq_false c1, Bool.false_and]
        rw [etk, List.filter_append, List.filter_cons_of_neg (by rw [et]; exact Bool.false_ne_true), List.filter_nil, List.append_nil]
        exact hDl
    · rintro H' ⟨ex, hDl⟩
      refine q H' D ex (Fresh.of hD) ?_
      rw [hDl, iV_len, List.take_length]
end
end Rm

namespace Rm
open PySem PySem.Spec PyProof.Rows L2 LamX
open Ks439 (Stay stay inOrder letIn there)
/-- a def of the text as it stands behind the top, its code object at c -/
structure FunC (K : PySem.W.Frag) (x qual : Str) (st : Stmt) (f c : Addr) (fd : FuncData) : Prop where
  ex : ∃ (oc : Value) (od : Option Addr) (kV doc pm : Value) (an : Option Addr) (ct : Value) (osl : Array (Option Value)),
    fd = PySem.W.fnOf x qual (defArgs st) (defBody st) (defScope st) .none kV doc pm an (.ref c) ct ∧ K.lookup f = some ⟨oc, od, .func fd, osl⟩ ∧ PySem.W.codeIn K (.ref c) qual = true
  kp : PySem.W.keepIn K (.ref f) = true
/-- the name of a lambda of the def -/
def lamName (qual : Str) : Str := (qual ++ (".<locals>." : Str)) ++ ("<lambda>" : Str)
section
variable {P : Program} {w : World} {K : PySem.W.Frag} {mg : Str → Option Value} {base : Heap} {T : List (Addr × Str)}
theorem FunC.ok {x qual : Str} {st : Stmt} {f c : Addr} {fd : FuncData} {N ps : List Str} {k : Nat} {sp : Sp} (F : FunC K x qual st f c fd) (S : FnScope N ps (defScope st)) (len : ∀ vs H Q E, sp vs H Q E → vs.length = ps.length)
    (hbody : ∀ (A : Around) (outer : List Env) (s : Shared) (H : Hp) (vs : List V) (Q : VK) (E : XK), Room k (A.deeper (envOfC qual (defScope st) s.heap.objs.size f (.ref c))) → sp vs H Q E →
      ∃ t, PSs (cxOf CX0 P w K mg base N qual (defScope st) f (.ref c) A outer s H E).nox (defBody st) t ∧ t { nx := fun _ H' => Q .non H', rt := Q } (start N vs) H) : FnOk P w K mg base CX0 (k + 1) f fd ps sp := by
  obtain ⟨oc, od, kV, doc, pm, an, ct, osl, rfl, lk, hcd⟩ := F.ex
  exact fn_of lk hcd S len fun A outer s H vs Q E hr hsp => let ⟨t, h, q⟩ := hbody A outer s H vs Q E hr hsp; ⟨t, h.nox, q⟩
/-! ### in_turn(spans) -/
def spTurn (K : PySem.W.Frag) (T : List (Addr × Str)) : Sp := fun vs H Q _ => ∃ (a : Addr) (l : List Stay), vs = [.ref a] ∧ Spans K H a l ∧ l.length ≤ 10 ∧ Tabs T H ∧ ∀ H' p, Ex T H H' → Fresh H p → H' p = some (.lst (iV (inOrder l))) → Q (.ref p) H'
theorem sort_order (l : List Stay) : (List.range l.length).mergeSort (fun a b => decide (((stay l a).from_ : Int) < ((stay l b).from_ : Int) ∨ (((stay l a).from_ : Int) = ((stay l b).from_ : Int) ∧ (a : Int) ≤ (b : Int)))) = inOrder l := by
  refine inOrder_of ?_ (List.mergeSort_perm _ _)
  refine (List.pairwise_mergeSort (fun a b c h1 h2 => ?_) (fun a b => ?_) _).imp fun {a b} h => ?_
  · rw [decide_eq_true_eq] at h1 h2 ⊢
    omega
  · rw [Bool.or_eq_true, decide_eq_true_eq, decide_eq_true_eq]
    omega
  · rw [decide_eq_true_eq] at h
    unfold notAfter
    omega
theorem ok_turn {f c Pt : Addr} {fd : FuncData} {k : Nat} (F : FunC K "in_turn" "in_turn" sTurn f c fd) (TB : TabB base mg c Pt) (hT : (Pt, lamName "in_turn") ∈ T) (hu : ∀ p ∈ T, p.1 = Pt → p.2 = lamName "in_turn") (ml : mg "len" = none) (mr : mg "range" = none) (ms : mg "sorted" = none) :
    FnOk P w K mg base CX0 (k + 1) f fd ["spans"] (spTurn K T) := by
  refine F.ok scTurn (fun vs H Q E h => ?_) (fun A outer s H vs Q E hr h => ?_)
  · obtain ⟨a, l, rfl, _⟩ := h
    rfl
  · obtain ⟨a, l, rfl, hS, hlen, ht, q⟩ := h
    refine ⟨_, pss_one (ps_ret (pe_keyed (T := T) (c := c) (P := Pt) (cr_sortKey (x := "spans") (y := "number") (k := 0) (j := 0) ⟨⟨_, _, _, _, _, _, _, rfl⟩, fun _ _ _ _ _ _ => rfl, rfl, rfl, rfl, by decide +kernel, rfl, rfl, NdefX.ndef_free (sc := defScope sTurn) (fr := ["spans"]) (by decide +kernel), by decide, by decide, rfl, rfl, rfl⟩ rfl hr)
      (by rfl) ms (by decide +kernel) (pa_cons (pe_callTy cr_range1 (by rfl) mr boot_range (pa_cons (pe_callB call_len_seq (by rfl) ml PySem.boot_len (pa_cons (pv 0) pa_nil)) pa_nil)) pa_nil) TB rfl hT hu rfl (NdefX.ndef_free (sc := defScope sTurn) (fr := ["spans"]) (by decide +kernel)))), ?_⟩
    obtain ⟨ts, h1, h2, h3⟩ := hS
    refine ⟨.ref a, rfl, a, _, rfl, .inl h1, _, rfl, fun p hp => ?_⟩
    refine ⟨(Ex.new hp).2 ht, fun H2 eN T2 => ?_⟩
    have e02 : Ex T H H2 := (Ex.new (T := T) (o := HO.rng 0 _) hp).trans ⟨eN, fun _ => T2⟩
    refine ⟨p, a, l.length, ts, fun i => ((stay l i).from_ : Int), rfl, ?_, by omega, rfl, seq_ext h1 e02.1, fun i hi => ?_, fun d hd => ?_⟩
    · have e := eN p _ upd_same (fun _ z => by cases z)
      rw [List.length_map, h2] at e
      exact e
    · have hi' : i < ts.length := by omega
      exact ⟨ts[i], _, List.getElem?_eq_getElem hi', tup_ext (h3 i _ _ (List.getElem?_eq_getElem hi') (stay_at hi)) e02.1, rfl⟩
    · refine q _ d (e02.trans (Ex.new hd)) ((Fresh.of hd).back e02.1) ?_
      rw [upd_same, sort_order]
end
end Rm

namespace Rm
open PySem PySem.Spec PyProof.Rows L2 LamX
open Ks439 (Stay stay inOrder letIn there)
section
variable {P : Program} {w : World} {K : PySem.W.Frag} {mg : Str → Option Value} {base : Heap} {T : List (Addr × Str)}
/-! ### last_to_leave(numbers, spans) -/
def spLast (K : PySem.W.Frag) (T : List (Addr × Str)) : Sp := fun vs H Q _ => ∃ (a sp : Addr) (ns : List Nat) (l : List Stay), vs = [.ref a, .ref sp] ∧ SqL K H a (iV ns) ∧ Spans K H sp l ∧ ns ≠ [] ∧ l.length ≤ 10 ∧ (∀ i ∈ ns, i < l.length) ∧ Tabs T H ∧
  ∀ H', Ex T H H' → Q (.int (last l ns : Nat)) H'
theorem best_arg (bt : Nat → Nat → Bool) : ∀ i, argBest bt i = bestAt bt i
  | 0 => rfl
  | i + 1 => by
    show (if bt (i + 1) (argBest bt i) = true then i + 1 else argBest bt i) = (if bt (i + 1) (bestAt bt i) = true then i + 1 else bestAt bt i)
    rw [best_arg bt i]
theorem last_arg (l : List Stay) (ns : List Nat) (h : ns ≠ []) :
    ns.getD (argBest (fun i j => decide (((stay l (ns.getD j 0)).to_ : Int) < ((stay l (ns.getD i 0)).to_ : Int) ∨ (((stay l (ns.getD j 0)).to_ : Int) = ((stay l (ns.getD i 0)).to_ : Int) ∧ (ns.getD j 0 : Int) < (ns.getD i 0 : Int)))) (ns.length - 1)) 0 = last l ns := by
  have e : (fun i j => decide (((stay l (ns.getD j 0)).to_ : Int) < ((stay l (ns.getD i 0)).to_ : Int) ∨ (((stay l (ns.getD j 0)).to_ : Int) = ((stay l (ns.getD i 0)).to_ : Int) ∧ (ns.getD j 0 : Int) < (ns.getD i 0 : Int)))) = fun i j => beats l (ns.getD i 0) (ns.getD j 0) := by
    funext i j
    unfold beats
    exact decide_eq_decide.mpr (by omega)
  have hp : 0 < ns.length := List.length_pos_iff.mpr h
  rw [e, best_arg, bestAt_last l ns 0 (ns.length - 1) (by omega), show ns.length - 1 + 1 = ns.length by omega, List.take_length]
theorem ok_last {f c Pt : Addr} {fd : FuncData} {k : Nat} (F : FunC K "last_to_leave" "last_to_leave" sLast f c fd) (TB : TabB base mg c Pt) (hT : (Pt, lamName "last_to_leave") ∈ T) (hu : ∀ p ∈ T, p.1 = Pt → p.2 = lamName "last_to_leave") (mm : mg "max" = none) :
    FnOk P w K mg base CX0 (k + 1) f fd ["numbers", "spans"] (spLast K T) := by
  refine F.ok scLast (fun vs H Q E h => ?_) (fun A outer s H vs Q E hr h => ?_)
  · obtain ⟨a, sp, ns, l, rfl, _⟩ := h
    rfl
  · obtain ⟨a, sp, ns, l, rfl, hN, hS, hne, hlen, hlt, ht, q⟩ := h
    refine ⟨_, pss_one (ps_ret (pe_keyed (T := T) (c := c) (P := Pt) (cr_maxKey (x := "spans") (y := "number") (k := 1) (j := 1) ⟨⟨_, _, _, _, _, _, _, rfl⟩, fun _ _ _ _ _ _ => rfl, rfl, rfl, rfl, by decide +kernel, rfl, rfl, NdefX.ndef_free (sc := defScope sLast) (fr := ["spans"]) (by decide +kernel), by decide, by decide, rfl, rfl, rfl⟩ rfl hr)
      (by rfl) mm (by decide +kernel) (pa_cons (pv 0) pa_nil) TB rfl hT hu rfl (NdefX.ndef_free (sc := defScope sLast) (fr := ["spans"]) (by decide +kernel)))), ?_⟩
    obtain ⟨ts, h1, h2, h3⟩ := hS
    refine ⟨.ref a, rfl, ht, fun H2 eN T2 => ?_⟩
    refine ⟨a, sp, ns, ts, fun i => ((stay l i).to_ : Int), rfl, seq_ext hN eN, hne, fun i hi => by have := hlt i hi; omega, rfl, seq_ext h1 eN, fun i hi => ?_, ?_⟩
    · have hi' : i < ts.length := by
        have := hlt i hi
        omega
      exact ⟨ts[i], _, List.getElem?_eq_getElem hi', tup_ext (h3 i _ _ (List.getElem?_eq_getElem hi') (stay_at (hlt i hi))) eN, rfl⟩
    · rw [last_arg l ns hne]
      exact q _ ⟨eN, fun _ => T2⟩
end
end Rm

namespace Rm
open PySem PySem.Spec PyProof.Rows L2 LamX
open Ks439 (Stay stay inOrder letIn there)
theorem iV_ints (l : List Nat) : (l.map fun i : Nat => (i : Int)).map V.int = iV l := by
  unfold iV
  rw [List.map_map]
  rfl
section
variable {P : Program} {w : World} {K : PySem.W.Frag} {mg : Str → Option Value} {base : Heap} {T : List (Addr × Str)}
/-! ### who_is_let_in(room, spans) -/
def spWho (K : PySem.W.Frag) (T : List (Addr × Str)) : Sp := fun vs H Q _ => ∃ (cap : Nat) (sp : Addr) (l : List Stay), vs = [.int (cap : Nat), .ref sp] ∧ Spans K H sp l ∧ l.length ≤ 10 ∧ Tabs T H ∧ ∀ H' p, Ex T H H' → Fresh H p → H' p = some (.lst (iV (letIn l cap))) → Q (.ref p) H'
theorem ok_who {f fT fH fL : Addr} {fd fdT fdH fdL : FuncData} {k : Nat} (F : Fun K "who_is_let_in" "who_is_let_in" sWho f fd)
    (GT : FnOk P w K mg base CX0 k fT fdT ["spans"] (spTurn K T)) (kT : PySem.W.keepIn K (.ref fT) = true) (bT : Binds K fdT ["spans"] []) (gT : mg "in_turn" = some (.ref fT))
    (GH : FnOk P w K mg base CX0 k fH fdH ["hour", "numbers", "spans"] (spThose K T)) (kH : PySem.W.keepIn K (.ref fH) = true) (bH : Binds K fdH ["hour", "numbers", "spans"] []) (gH : mg "those_there" = some (.ref fH))
    (GL : FnOk P w K mg base CX0 k fL fdL ["numbers", "spans"] (spLast K T)) (kL : PySem.W.keepIn K (.ref fL) = true) (bL : Binds K fdL ["numbers", "spans"] []) (gL : mg "last_to_leave" = some (.ref fL))
    (ml : mg "len" = none) (ms : mg "sorted" = none) : FnOk P w K mg base CX0 (k + 1) f fd ["room", "spans"] (spWho K T) := by
  refine F.ok scWho (fun vs H Q E h => ?_) (fun cdv A outer s H vs Q E hr h => ?_)
  · obtain ⟨cap, sp, l, rfl, _⟩ := h
    rfl
  · obtain ⟨cap, sp, l, rfl, hS, hlen, ht, q⟩ := h
    refine ⟨_, pss_cons (ps_set (i := 2) scWho.nd rfl (.inl rfl) (pe_lst pa_nil))
      (pss_cons (ps_for PassesOwn.never rfl (pi_list (pe_call GT hr (by rfl) gT kT bT .nil pass0 (pa_cons (pv 1) pa_nil))) (pg_name (i := 3) scWho.nd rfl (.inl rfl))
        (pss_cons (ps_expr (pe_bm PySem.F.plainAttrs_list PySem.F.slot_list_append PySem.F.type_list_append mt_append (pv 2) (pa_cons (pv 3) pa_nil)))
        (pss_cons (ps_set (i := 4) scWho.nd rfl (.inl rfl) (pe_call GH hr (by rfl) gH kH bH .nil pass0 (pa_cons (pe_ix ix_tup (pe_ix ix_list (pv 1) (pv 3) (fun _ _ => rfl)) pe_int (fun _ _ => rfl)) (pa_cons (pv 2) (pa_cons (pv 1) pa_nil)))))
        (pss_one (ps_if (pt_cmpR op_gt (pe_callB call_len_seq (by rfl) ml PySem.boot_len (pa_cons (pv 4) pa_nil)) (pv 0) (nomark _))
          (pss_one (ps_expr (pe_bm PySem.F.plainAttrs_list PySem.F.slot_list_remove PySem.F.type_list_remove mt_remove (pv 2) (pa_cons (pe_call GL hr (by rfl) gL kL bL .nil pass0 (pa_cons (pv 4) (pa_cons (pv 1) pa_nil))) pa_nil)))) pss_nil)))))
      (pss_one (ps_ret (pe_callB cr_sortedI (by rfl) ms (by decide +kernel) (pa_cons (pv 2) pa_nil))))), ?_⟩
    -- inside = []
    refine ⟨Nat.zero_le _, fun o no => ?_⟩
    have x1 : Ex T H (upd H o (.lst [])) := Ex.new no
    -- in_turn(spans)
    refine ⟨.ref sp, rfl, sp, l, rfl, hS.ext x1.1, hlen, x1.2 ht, fun H1 p x2 fr2 hp => ?_⟩
    have x12 := x1.trans x2
    have npo : o ≠ p := fr2 o _ upd_same (fun _ z => by cases z)
    have ho1 : H1 o = some (.lst []) := x2.lst upd_same
    refine ⟨p, rfl, ⟨_, SqL.of hp⟩, for_list (K := K) (a := p) (xs := iV (inOrder l)) (fun i σ H2 => (∃ v3 v4, σ = [some (.int (cap : Nat)), some (.ref sp), some (.ref o), v3, v4]) ∧ Ex T H H2 ∧ H2 p = some (.lst (iV (inOrder l))) ∧ H2 o = some (.lst (iV (inside l cap ((inOrder l).take i)))))
      ⟨⟨none, none, rfl⟩, x12, hp, ho1⟩ (fun i σ H2 _ h => SqL.of h.2.2.1) ?_ ?_⟩
    · rintro i x σ H2 hi ⟨⟨v3, v4, rfl⟩, ex, hp2, ho2⟩
      obtain ⟨n, en, rfl⟩ := at_iV hi
      have hnl : n < l.length := inOrder_lt (List.mem_of_getElem? en)
      have etk : (inOrder l).take (i + 1) = (inOrder l).take i ++ [n] := by rw [List.take_add_one, en]; rfl
      have hil : i < (inOrder l).length := (List.getElem?_eq_some_iff.mp en).1
      have lenT : (inside l cap ((inOrder l).take i)).length ≤ 10 := by
        refine Nat.le_trans (inside_len _ _ _) ?_
        rw [List.length_take, inOrder_len]
        omega
      have memT : ∀ z ∈ inside l cap ((inOrder l).take i) ++ [n], z < l.length := fun z hz => by
        rcases List.mem_append.mp hz with hz | hz
        · have f3 := (inside_facts l cap ((inOrder l).take i) ((inOrder_nodup l).sublist (List.take_sublist ..))).2.2
          exact inOrder_lt (List.mem_of_mem_take (f3 z hz))
        · rw [List.mem_singleton.mp hz]
          exact hnl
      have estep : inside l cap ((inOrder l).take (i + 1)) = turn l cap (inside l cap ((inOrder l).take i)) n := by rw [etk, inside_more]
      generalize hs : inside l cap ((inOrder l).take i) = ins at ho2 lenT memT estep
      -- inside.append(number)
      refine ⟨_, rfl, .inl ⟨rfl, _, SqL.of ho2⟩, _, rfl, o, _, _, rfl, rfl, ho2, small_line (by rw [iV_len]; omega), ?_⟩
      rw [iV_snoc]
      have x3 : Ex T H (upd H2 o (.lst (iV (ins ++ [n])))) := ex.write no ho2
      have hp3 : upd H2 o (.lst (iV (ins ++ [n]))) p = some (.lst (iV (inOrder l))) := (upd_ne npo.symm).trans hp2
      have ho3 : upd H2 o (.lst (iV (ins ++ [n]))) o = some (.lst (iV (ins ++ [n]))) := upd_same
      generalize upd H2 o (.lst (iV (ins ++ [n]))) = H3 at x3 hp3 ho3
      -- there = those_there(..)
      obtain ⟨xs, t, g1, g2, g3⟩ := (hS.ext x3.1).at_ hnl
      refine ⟨_, rfl, _, rfl, sp, xs, _, _, rfl, rfl, g1, g2, t, _, _, _, rfl, rfl, g3, atI_nat (j := 0) rfl, _, rfl, _, rfl, (stay l n).from_, o, sp, ins ++ [n], l, rfl, SqL.of ho3, hS.ext x3.1, ?_, memT, fun H4 d x4 fr4 hd => ?_⟩
      · rw [List.length_append, List.length_singleton]
        omega
      have x34 := x3.trans x4
      have hp4 := x4.lst hp3
      have ho4 := x4.lst ho3
      have nod : o ≠ d := fr4 o _ ho3 (fun _ z => by cases z)
      -- if len(there) > room
      refine ⟨_, rfl, d, _, rfl, .inl (SqL.of hd), _, rfl, _, _, rfl, rfl, _, rfl, ?_⟩
      have et : turn l cap ins n = if cap < ((ins ++ [n]).filter (there l (stay l n).from_)).length then (ins ++ [n]).erase (last l ((ins ++ [n]).filter (there l (stay l n).from_))) else ins ++ [n] := rfl
      generalize hnow : (ins ++ [n]).filter (there l (stay l n).from_) = now at hd et
      by_cases c : cap < now.length
      · rw [show decide ((cap : Int) < ((iV now).length : Int)) = true from decide_eq_true (by rw [iV_len]; omega)]
        refine iteT ?_
        have hne : now ≠ [] := fun z => by
          rw [z] at c
          exact absurd c (Nat.not_lt_zero _)
        have hsub : ∀ z ∈ now, z ∈ ins ++ [n] := fun z hz => by
          rw [← hnow] at hz
          exact (List.mem_filter.mp hz).1
        have hlm : last l now ∈ ins ++ [n] := hsub _ (last_mem hne)
        refine ⟨_, rfl, .inl ⟨rfl, _, SqL.of ho4⟩, _, rfl, _, rfl, d, sp, now, l, rfl, SqL.of hd, hS.ext x34.1, hne, hlen, fun z hz => memT z (hsub z hz), x34.2 ht, fun H5 x5 => ?_⟩
        have ho5 := x5.lst ho4
        have hmI : ((last l now : Nat) : Int) ∈ (ins ++ [n]).map fun i : Nat => (i : Int) := List.mem_map.mpr ⟨_, hlm, rfl⟩
        obtain ⟨j, _, hj1, hj2, hj3⟩ := first_at hmI
        refine ⟨o, (ins ++ [n]).map fun i : Nat => (i : Int), _, j, rfl, rfl, by rw [iV_ints]; exact ho5, hj1, hj2, ?_⟩
        rw [hj3, erase_cast, iV_ints]
        refine ⟨⟨_, _, rfl⟩, (x34.trans x5).write no ho5, (upd_ne npo.symm).trans (x5.lst hp4), ?_⟩
        rw [upd_same, estep, et, if_pos c]
      · rw [show decide ((cap : Int) < ((iV now).length : Int)) = false from decide_eq_false (by rw [iV_len]; omega)]
        refine iteF ⟨⟨_, _, rfl⟩, x34, hp4, ?_⟩
        rw [ho4, estep, et, if_neg c]
    · rintro σ H2 ⟨⟨v3, v4, rfl⟩, ex, hp2, ho2⟩
      rw [iV_len, List.take_length] at ho2
      -- return sorted(inside)
      refine ⟨_, rfl, o, (inside l cap (inOrder l)).map fun i : Nat => (i : Int), rfl, by rw [iV_ints]; exact SqL.of ho2, fun ns' d hpm hpw hd => ?_⟩
      obtain ⟨b1, b2⟩ := nats_back hpm
      have e := letIn_eq b1 (rising_back hpw)
      refine q _ d (ex.trans (Ex.new hd)) ((Fresh.of hd).back ex.1) ?_
      rw [upd_same, ← b2, iV_ints, e]
end
end Rm

namespace Rm
open PySem PySem.Spec PyProof.Rows L2 LamX
open Ks439 (Stay stay inOrder letIn there lockerOf)
section
variable {P : Program} {w : World} {K : PySem.W.Frag} {mg : Str → Option Value} {base : Heap} {T : List (Addr × Str)}
/-! ### places(stays) -/
def spPl (K : PySem.W.Frag) (T : List (Addr × Str)) : Sp := fun vs H Q _ => ∃ (a : Addr) (ns : List Int), vs = [.ref a] ∧ SqL K H a (ns.map V.int) ∧ ns.length ≤ 24 ∧ (∀ x ∈ ns, 0 ≤ x) ∧ Tabs T H ∧ ∀ H' p, H' p = some (.lst ((PyKs439.places ns).map V.int)) → Q (.ref p) H'
theorem ok_pl {f fR fA fP fW : Addr} {fd fdR fdA fdP fdW : FuncData} {k : Nat} (F : Fun K "places" "places" sPl f fd)
    (GR : FnOk P w K mg base CX0 k fR fdR [] (spRef T)) (kR : PySem.W.keepIn K (.ref fR) = true) (bR : Binds K fdR [] []) (gR : mg "refusal" = some (.ref fR))
    (GA : FnOk P w K mg base CX0 k fA fdA ["stays"] (spAre K T)) (kA : PySem.W.keepIn K (.ref fA) = true) (bA : Binds K fdA ["stays"] []) (gA : mg "are_stays" = some (.ref fA))
    (GP : FnOk P w K mg base CX0 k fP fdP ["stays"] (spPairs K T)) (kP : PySem.W.keepIn K (.ref fP) = true) (bP : Binds K fdP ["stays"] []) (gP : mg "pairs" = some (.ref fP))
    (GW : FnOk P w K mg base CX0 k fW fdW ["room", "spans"] (spWho K T)) (kW : PySem.W.keepIn K (.ref fW) = true) (bW : Binds K fdW ["room", "spans"] []) (gW : mg "who_is_let_in" = some (.ref fW))
    (ml : mg "len" = none) (mr : mg "range" = none) : FnOk P w K mg base CX0 (k + 1) f fd ["stays"] (spPl K T) := by
  refine F.ok scPl (fun vs H Q E h => ?_) (fun cdv A outer s H vs Q E hr h => ?_)
  · obtain ⟨a, ns, rfl, _⟩ := h
    rfl
  · obtain ⟨a, ns, rfl, hS, hlen, hpos, ht, q⟩ := h
    refine ⟨_, pss_cons (ps_if (pt_not (pt_val (pe_call GA hr (by rfl) gA kA bA .nil pass0 (pa_cons (pv 0) pa_nil))))
        (pss_one (ps_ret (pe_call0 GR hr (by rfl) gR kR bR .nil pass0))) pss_nil)
      (pss_cons (ps_set (i := 1) scPl.nd rfl (.inr rfl) (pe_call GP hr (by rfl) gP kP bP .nil pass0 (pa_cons (pv 0) pa_nil)))
      (pss_cons (ps_setLc (i := 2) (own := [("room", 3)]) (g := gName 3) (tt := tYes) rfl scPl.nd rfl rfl (sw_true rfl rfl rfl (by decide +kernel))
        (pi_range1 (by rfl) mr (pa_cons (pe_op op_add (pe_callB call_len_seq (by rfl) ml PySem.boot_len (pa_cons (pv 1) pa_nil)) pe_int) pa_nil))
        (blkOk_by (N := ["stays", "spans", "let_in", "room"]) (sc := defScope sPl) (by decide +kernel)) (fun _ _ _ _ _ => pg_name (i := 3) scPl.nd rfl (Or.inl rfl)) (fun _ _ _ _ _ => pts_nil)
        (fun _ _ _ _ _ => pe_callB (r := rLn K) call_len_seq (by rfl) ml PySem.boot_len (pa_cons (pe_call GW hr (by rfl) gW kW bW .nil pass0 (pa_cons (pv 3) (pa_cons (pv 1) pa_nil))) pa_nil)))
      (pss_one (ps_ret (pe_op op_cat (pe_lst (pa_cons (pe_callB call_len_seq (by rfl) ml PySem.boot_len (pa_cons (pv 2) pa_nil)) pa_nil)) (pv 2)))))), ?_⟩
    have ef := places_f ns
    refine ⟨.ref a, rfl, a, ns, rfl, hS, hlen, hpos, fun H1 x1 => ⟨_, rfl, ?_⟩⟩
    cases c2 : okB ns with
    | false =>
      rw [c2] at ef
      refine iteT ⟨rfl, fun H2 p _ _ hp => q H2 p ?_⟩
      rw [ef]
      exact hp
    | true =>
      refine iteF ?_
      rw [c2, if_pos rfl] at ef
      -- spans = pairs(stays)
      refine ⟨.ref a, rfl, a, ns, rfl, seq_ext hS x1.1, okB_even c2, hlen, hpos, fun H2 p x2 fr2 hsp => ?_⟩
      have x12 := x1.trans x2
      obtain ⟨ts, hts, htl, htt⟩ := id hsp
      have hl : (sts ns).length ≤ 10 := by
        rw [sts_len]
        have := okB_len c2
        omega
      have ht2 := x12.2 ht
      generalize sts ns = l at hsp htl htt hl ef
      -- let_in = [len(who_is_let_in(room, spans)) for room in range(len(spans) + 1)]
      refine ⟨_, rfl, p, _, rfl, .inl hts, _, _, rfl, rfl, _, rfl, ?_, ?_, fun D hD => ?_⟩
      · rw [List.length_map, htl]
        have : ((l.length : Nat) : Int) ≤ 10 := by omega
        omega
      · rw [List.length_map, htl]
        have : ((l.length : Nat) : Int) ≤ 10 := by omega
        omega
      rw [List.length_map, htl, show (((l.length : Nat) : Int) + 1).toNat = l.length + 1 by omega]
      refine lc_it (walk_range (lo := 0) (n := l.length + 1)) (fun i H' => Ex T H2 H' ∧ H' D = some (.lst (iV ((List.range i).map fun c => (letIn l c).length)))) ⟨Ex.new hD, upd_same⟩ (fun _ _ _ _ => trivial) ?_ ?_
      · rintro i x H3 H4 hi ⟨ex, hDl⟩ ⟨rfl, rfl⟩
        refine ⟨rfl, ?_⟩
        unfold tYes
        dsimp only
        rw [if_pos rfl]
        refine ⟨_, rfl, _, rfl, i, p, l, ?_, hsp.ext ex.1, hl, ex.2 ht2, fun H5 d x5 fr hd => ?_⟩
        · rw [Int.zero_add]
          rfl
        have hD5 := x5.lst hDl
        refine ⟨d, _, rfl, .inl (SqL.of hd), _, hD5, ?_, (ex.trans x5).write hD hD5, ?_⟩
        · rw [iV_len, List.length_map, List.length_range]
          exact small_line (by omega)
        · rw [upd_same, List.range_succ, List.map_append, iV_len]
          exact congrArg (fun z => some (HO.lst z)) (iV_snoc _ _)
      · rintro H5 ⟨ex, hDl⟩
        -- return [len(let_in)] + let_in
        refine ⟨_, rfl, D, _, rfl, .inl (SqL.of hDl), (by show 1 ≤ sizeLine; decide), fun b hb => ?_⟩
        have ndb : D ≠ b := ne_of_none hDl hb
        refine ⟨_, rfl, b, D, _, _, rfl, rfl, upd_same, (upd_ne ndb).trans hDl, ?_, fun r hr2 => ?_⟩
        · rw [iV_len, List.length_map, List.length_range]
          have := small_line (n := 12) (by decide)
          show 1 + _ ≤ _
          omega
        · refine q _ r ?_
          rw [upd_same, ef, iV_len, List.length_map, List.length_range]
          show _ = some (HO.lst (List.map V.int (_ :: List.map Int.ofNat _)))
          rw [List.map_cons, List.map_map]
          rfl
end
end Rm

namespace Rm
open PySem PySem.Spec PyProof.Rows L2 LamX
/-! ### what the top has written -/
def tabsOf (PT PL : Addr) : List (Addr × Str) := [(PT, lamName "in_turn"), (PL, lamName "last_to_leave")]
theorem all_mk {P : Program} {w : World} {K : PySem.W.Frag} {h : Heap} {mg : Str → Option Value} {fa cT PT cL PL f1 f2 f3 f4 f5 f6 f7 f8 : Addr} {od1 an1 od2 an2 od3 an3 od4 an4 od5 an5 od6 an6 od7 an7 od8 an8 : Option Addr} {sl1 sl2 sl3 sl4 sl5 sl6 sl7 sl8 : Array (Option Value)} {oc1 kV1 dc1 pm1 ct1 oc2 kV2 dc2 pm2 ct2 oc3 kV3 dc3 pm3 ct3 oc4 kV4 dc4 pm4 ct4 oc5 kV5 dc5 pm5 ct5 oc6 kV6 dc6 pm6 ct6 oc7 kV7 dc7 pm7 ct7 oc8 kV8 dc8 pm8 ct8 cd1 cd2 cd3 cd5 cd7 cd8 : Value} {t1 t2 : Tok}
    (X : K.In h) (G : h.Ns mainGlobals mg) (hfa : mg "places" = some (.ref fa)) (hne : PT ≠ PL)
    (a1 : PySem.W.nsIn K mainGlobals "refusal" = some (some (.ref f1))) (l1 : K.lookup f1 = some ⟨oc1, od1, .func (PySem.W.fnOf "refusal" "refusal" (defArgs sRef) (defBody sRef) (defScope sRef) .none kV1 dc1 pm1 an1 cd1 ct1), sl1⟩) (c1 : PySem.W.codeIn K cd1 "refusal" = true) (k1 : PySem.W.keepIn K (.ref f1) = true)
    (a2 : PySem.W.nsIn K mainGlobals "are_stays" = some (some (.ref f2))) (l2 : K.lookup f2 = some ⟨oc2, od2, .func (PySem.W.fnOf "are_stays" "are_stays" (defArgs sAre) (defBody sAre) (defScope sAre) .none kV2 dc2 pm2 an2 cd2 ct2), sl2⟩) (c2 : PySem.W.codeIn K cd2 "are_stays" = true) (k2 : PySem.W.keepIn K (.ref f2) = true)
    (a3 : PySem.W.nsIn K mainGlobals "pairs" = some (some (.ref f3))) (l3 : K.lookup f3 = some ⟨oc3, od3, .func (PySem.W.fnOf "pairs" "pairs" (defArgs sPairs) (defBody sPairs) (defScope sPairs) .none kV3 dc3 pm3 an3 cd3 ct3), sl3⟩) (c3 : PySem.W.codeIn K cd3 "pairs" = true) (k3 : PySem.W.keepIn K (.ref f3) = true)
    (a4 : PySem.W.nsIn K mainGlobals "in_turn" = some (some (.ref f4))) (l4 : K.lookup f4 = some ⟨oc4, od4, .func (PySem.W.fnOf "in_turn" "in_turn" (defArgs sTurn) (defBody sTurn) (defScope sTurn) .none kV4 dc4 pm4 an4 (.ref cT) ct4), sl4⟩) (c4 : PySem.W.codeIn K (.ref cT) "in_turn" = true) (k4 : PySem.W.keepIn K (.ref f4) = true)
    (a5 : PySem.W.nsIn K mainGlobals "those_there" = some (some (.ref f5))) (l5 : K.lookup f5 = some ⟨oc5, od5, .func (PySem.W.fnOf "those_there" "those_there" (defArgs sThose) (defBody sThose) (defScope sThose) .none kV5 dc5 pm5 an5 cd5 ct5), sl5⟩) (c5 : PySem.W.codeIn K cd5 "those_there" = true) (k5 : PySem.W.keepIn K (.ref f5) = true)
    (a6 : PySem.W.nsIn K mainGlobals "last_to_leave" = some (some (.ref f6))) (l6 : K.lookup f6 = some ⟨oc6, od6, .func (PySem.W.fnOf "last_to_leave" "last_to_leave" (defArgs sLast) (defBody sLast) (defScope sLast) .none kV6 dc6 pm6 an6 (.ref cL) ct6), sl6⟩) (c6 : PySem.W.codeIn K (.ref cL) "last_to_leave" = true) (k6 : PySem.W.keepIn K (.ref f6) = true)
    (a7 : PySem.W.nsIn K mainGlobals "who_is_let_in" = some (some (.ref f7))) (l7 : K.lookup f7 = some ⟨oc7, od7, .func (PySem.W.fnOf "who_is_let_in" "who_is_let_in" (defArgs sWho) (defBody sWho) (defScope sWho) .none kV7 dc7 pm7 an7 cd7 ct7), sl7⟩) (c7 : PySem.W.codeIn K cd7 "who_is_let_in" = true) (k7 : PySem.W.keepIn K (.ref f7) = true)
    (a8 : PySem.W.nsIn K mainGlobals "places" = some (some (.ref f8))) (l8 : K.lookup f8 = some ⟨oc8, od8, .func (PySem.W.fnOf "places" "places" (defArgs sPl) (defBody sPl) (defScope sPl) .none kV8 dc8 pm8 an8 cd8 ct8), sl8⟩) (c8 : PySem.W.codeIn K cd8 "places" = true) (k8 : PySem.W.keepIn K (.ref f8) = true)
    (m1 : PySem.W.nsIn K mainGlobals "MOST_STAYS" = some (some (.int 10 t1)))
    (m2 : PySem.W.nsIn K mainGlobals "LAST_HOUR" = some (some (.int 24 t2)))
    (z1 : PySem.W.nsIn K mainGlobals "len" = some none)
    (z2 : PySem.W.nsIn K mainGlobals "range" = some none)
    (z3 : PySem.W.nsIn K mainGlobals "sorted" = some none)
    (z4 : PySem.W.nsIn K mainGlobals "max" = some none) :
    ∃ fd : FuncData, (∀ (s : Shared) (us : List Value), us.length = (["stays"] : List Str).length → BindsTo s fd ⟨us, []⟩ ((["stays"] : List Str).zip us)) ∧ ∀ base : Heap, K.In base → base.Ns mainGlobals mg → (∀ p ∈ [(cT, PT), (cL, PL)], TabB base mg p.1 p.2) → FnOk P w K mg base CX0 4 fa fd ["stays"] (spPl K (tabsOf PT PL)) := by
  have e := hfa.symm.trans (PySem.W.mg_of X G a8)
  cases e
  have F1 := fun_mk (st := sRef) l1 c1 k1
  have b1 : Binds K _ [] [] := Binds.all (ps := []) (fd := PySem.W.fnOf "refusal" "refusal" (defArgs sRef) (defBody sRef) (defScope sRef) .none kV1 dc1 pm1 an1 cd1 ct1) fun us hl => match us, hl with | [], _ => rfl
  have F2 := fun_mk (st := sAre) l2 c2 k2
  have b2 : Binds K _ ["stays"] [] := Binds.all (ps := ["stays"]) (fd := PySem.W.fnOf "are_stays" "are_stays" (defArgs sAre) (defBody sAre) (defScope sAre) .none kV2 dc2 pm2 an2 cd2 ct2) fun us hl => match us, hl with | [_], _ => rfl
  have F3 := fun_mk (st := sPairs) l3 c3 k3
  have b3 : Binds K _ ["stays"] [] := Binds.all (ps := ["stays"]) (fd := PySem.W.fnOf "pairs" "pairs" (defArgs sPairs) (defBody sPairs) (defScope sPairs) .none kV3 dc3 pm3 an3 cd3 ct3) fun us hl => match us, hl with | [_], _ => rfl
  have F4 : FunC K "in_turn" "in_turn" sTurn f4 cT _ := ⟨⟨oc4, od4, kV4, dc4, pm4, an4, ct4, sl4, rfl, l4, c4⟩, k4⟩
  have b4 : Binds K _ ["spans"] [] := Binds.all (ps := ["spans"]) (fd := PySem.W.fnOf "in_turn" "in_turn" (defArgs sTurn) (defBody sTurn) (defScope sTurn) .none kV4 dc4 pm4 an4 (.ref cT) ct4) fun us hl => match us, hl with | [_], _ => rfl
  have F5 := fun_mk (st := sThose) l5 c5 k5
  have b5 : Binds K _ ["hour", "numbers", "spans"] [] := Binds.all (ps := ["hour", "numbers", "spans"]) (fd := PySem.W.fnOf "those_there" "those_there" (defArgs sThose) (defBody sThose) (defScope sThose) .none kV5 dc5 pm5 an5 cd5 ct5) fun us hl => match us, hl with | [_, _, _], _ => rfl
  have F6 : FunC K "last_to_leave" "last_to_leave" sLast f6 cL _ := ⟨⟨oc6, od6, kV6, dc6, pm6, an6, ct6, sl6, rfl, l6, c6⟩, k6⟩
  have b6 : Binds K _ ["numbers", "spans"] [] := Binds.all (ps := ["numbers", "spans"]) (fd := PySem.W.fnOf "last_to_leave" "last_to_leave" (defArgs sLast) (defBody sLast) (defScope sLast) .none kV6 dc6 pm6 an6 (.ref cL) ct6) fun us hl => match us, hl with | [_, _], _ => rfl
  have F7 := fun_mk (st := sWho) l7 c7 k7
  have b7 : Binds K _ ["room", "spans"] [] := Binds.all (ps := ["room", "spans"]) (fd := PySem.W.fnOf "who_is_let_in" "who_is_let_in" (defArgs sWho) (defBody sWho) (defScope sWho) .none kV7 dc7 pm7 an7 cd7 ct7) fun us hl => match us, hl with | [_, _], _ => rfl
  have F8 := fun_mk (st := sPl) l8 c8 k8
  have uT : ∀ p ∈ tabsOf PT PL, p.1 = PT → p.2 = lamName "in_turn" := fun p hp e => by
    rcases List.mem_cons.mp hp with rfl | hp
    · rfl
    · rw [List.mem_singleton.mp hp] at e
      exact absurd e.symm hne
  have uL : ∀ p ∈ tabsOf PT PL, p.1 = PL → p.2 = lamName "last_to_leave" := fun p hp e => by
    rcases List.mem_cons.mp hp with rfl | hp
    · exact absurd e hne
    · rw [List.mem_singleton.mp hp]
  have gm : ∀ {n : Str} {v : Value}, PySem.W.nsIn K mainGlobals n = some (some v) → mg n = some v := fun e => PySem.W.mg_of X G e
  have gn : ∀ {n : Str}, PySem.W.nsIn K mainGlobals n = some none → mg n = none := fun e => PySem.W.mg_none_of X G e
  refine ⟨PySem.W.fnOf "places" "places" (defArgs sPl) (defBody sPl) (defScope sPl) .none kV8 dc8 pm8 an8 cd8 ct8, fun s us hu => match us, hu with | [_], _ => .of_eq rfl, fun base _ _ TB => ?_⟩
  have G1 : FnOk P w K mg base CX0 1 f1 _ [] (spRef (tabsOf PT PL)) := ok_ref F1
  have G3 : FnOk P w K mg base CX0 1 f3 _ ["stays"] (spPairs K (tabsOf PT PL)) := ok_pairs F3 (gn z1) (gn z2)
  have G2 : FnOk P w K mg base CX0 2 f2 _ ["stays"] (spAre K (tabsOf PT PL)) := ok_are F2 G3 k3 b3 (gm a3) (gn z1) (gm m1) (gm m2)
  have G4 : FnOk P w K mg base CX0 1 f4 _ ["spans"] (spTurn K (tabsOf PT PL)) := ok_turn F4 (TB _ (List.mem_cons_self ..)) (List.mem_cons_self ..) uT (gn z1) (gn z2) (gn z3)
  have G5 : FnOk P w K mg base CX0 1 f5 _ ["hour", "numbers", "spans"] (spThose K (tabsOf PT PL)) := ok_those F5
  have G6 : FnOk P w K mg base CX0 1 f6 _ ["numbers", "spans"] (spLast K (tabsOf PT PL)) := ok_last F6 (TB _ (List.mem_cons_of_mem _ (List.mem_cons_self ..))) (List.mem_cons_of_mem _ (List.mem_cons_self ..)) uL (gn z4)
  have G7 : FnOk P w K mg base CX0 2 f7 _ ["room", "spans"] (spWho K (tabsOf PT PL)) := ok_who F7 G4 k4 b4 (gm a4) G5 k5 b5 (gm a5) G6 k6 b6 (gm a6) (gn z1) (gn z3)
  exact (ok_pl (k := 2) F8 (G1.mono (by decide)) k1 b1 (gm a1) G2 k2 b2 (gm a2) (G3.mono (by decide)) k3 b3 (gm a3) G7 k7 b7 (gm a7) (gn z1) (gn z2)).mono (by decide)
/-- an argument's list is the def's, too -/
theorem own_list {K : PySem.W.Frag} {H H0 : Hp} {p : Addr} {us : List V} (hO : OnlyF H0) (hH : ∀ b o u, H0 b = some (.frz o u) → H b = some (.frz o u)) (hs : SqL K H0 p us) : SqL K H p us := by
  rcases hs with (hs | ⟨o, hs⟩) | hs
  · rcases hO _ with z | ⟨o, u, z⟩
    · rw [hs] at z
      cases z
    · rw [hs] at z
      cases z
  · exact .inl (.inr ⟨o, hH _ _ _ hs⟩)
  · exact .inr hs
end Rm
open PySem PySem.W PyProof.Rows
set_option maxRecDepth 100000 in
set_option maxHeartbeats 8000000 in
theorem PySem.Challenge.cw_roomstays_s05_places_holds : PySem.Challenge.rw_roomstays_s05_places.Holds := by
  w_on; k_headS; (case hw => exact ⟨[.list []], by decide +kernel, by decide +kernel⟩)
  k_fillS
  refine Rm.end_row (r := PySem.Challenge.rw_roomstays_s05_places) (k := 4) (CX := L2.CX0) (ps := ["stays"]) (sp := fun K => Rm.spPl K (Rm.tabsOf 35 47)) (cs := fun _ => [(39, 35), (51, 47)]) (by decide +kernel) rfl ⟨rfl, by decide, by decide⟩ (fun w h Y => PySem.W.kIn_of Y) ?T ?F ?S (fun _ _ _ _ z => z)
  case T =>
    intro w mean mg mb h Y KX T
    refine ⟨fun p hp => ?_, fun p hp => ?_⟩
    · rcases List.mem_cons.mp hp with rfl | hp
      · exact tab_of (x := PySem.Str.ofString "in_turn") T KX rfl (by kernel_rfl)
      · rw [List.mem_singleton.mp hp]
        exact tab_of (x := PySem.Str.ofString "last_to_leave") T KX rfl (by kernel_rfl)
    · rcases List.mem_cons.mp hp with rfl | hp
      · rfl
      · rw [List.mem_singleton.mp hp]
        rfl
  case F =>
    intro w mg fa h KX G hmg
    refine' Rm.all_mk KX G hmg (by decide) ?a1 ?l1 ?c1 ?k1 ?a2 ?l2 ?c2 ?k2 ?a3 ?l3 ?c3 ?k3 ?a4 ?l4 ?c4 ?k4 ?a5 ?l5 ?c5 ?k5 ?a6 ?l6 ?c6 ?k6 ?a7 ?l7 ?c7 ?k7 ?a8 ?l8 ?c8 ?k8 ?m1 ?m2 ?z1 ?z2 ?z3 ?z4
    (case a1 => k_is); (case l1 => k_is); (case c1 => k_is); (case k1 => k_is); (case a2 => k_is); (case l2 => k_is); (case c2 => k_is); (case k2 => k_is); (case a3 => k_is); (case l3 => k_is); (case c3 => k_is); (case k3 => k_is); (case a4 => k_is); (case l4 => k_is); (case c4 => k_is); (case k4 => k_is); (case a5 => k_is); (case l5 => k_is); (case c5 => k_is); (case k5 => k_is); (case a6 => k_is); (case l6 => k_is); (case c6 => k_is); (case k6 => k_is); (case a7 => k_is); (case l7 => k_is); (case c7 => k_is); (case k7 => k_is); (case a8 => k_is); (case l8 => k_is); (case c8 => k_is); (case k8 => k_is); (case m1 => k_is); (case m2 => k_is); (case z1 => k_is); (case z2 => k_is); (case z3 => k_is); (case z4 => k_is)
  case S =>
    intro w H xs a hwi hask hst
    obtain ⟨hT, _, H0, hO, hH, hx⟩ := hst
    obtain ⟨ns, u⟩ := a
    cases hx with
    | cons h1 h2 =>
      cases h2
      cases h1 with
      | lst hs ha =>
        have e := L2.ints_dw ns _ ha
        subst e
        have q : (((Codec.inLen 0 24 ns && ns.all (Codec.inInt 0 4294967295))) && true) = true := hwi
        simp only [Bool.and_eq_true, Bool.and_true, List.all_eq_true] at q
        refine ⟨_, ns, rfl, Rm.own_list hO hH hs, (Codec.inNat_iff.mp q.1).2, fun x hx => (Codec.inInt_iff.mp (q.2 x hx)).1, fun p hp => ?_, fun H' p hp => .lst (L2.SqL.of hp) (L2.dw_ints _)⟩
        rcases List.mem_cons.mp hp with rfl | hp
        · exact LamX.TabS.nil (hT _ (List.mem_cons_self ..))
        · rw [List.mem_singleton.mp hp]
          exact LamX.TabS.nil (hT _ (List.mem_cons_of_mem _ (List.mem_cons_self ..)))
#print axioms PySem.Challenge.cw_roomstays_s05_places_holds


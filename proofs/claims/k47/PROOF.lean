import PyProof.Rows.All
import Wide.All
import OpenK.AllK
import Wide.FinOn
import HandS.ForMost
import HandS.Flow
import HandS.Lambda
import HandS.TupAny
import HandS.Deep
import HandS.IsInst
import HandS.Zip
import HandS.Style
import KE.GoesMore
import HandS.TupLen
import HandS.Conv
import HandS.WordsDict
import KE.KDictPairs
import HandS.SortRule
import HandS.SortInts
import HandS.SortOrd
import HandS.TupSets
import HandS.DictTup
import PyProof.DictMoreH
import KE.KDictCopyH
import KE.KDictList
import HandS.Iter
import HandS.DictSubView
import HandS.SortKw
import KE.KLam
import KE.SortKeyHeap
import KE.KSortKey
import PyProof.TupleOfSeq
import HandS.EndTab
import HandS.TupMul
import HandS.WideBits
import KE.KNestM
import PySem.Challenge.RW_foxborders_k47_whole_lots_that_do_not_cr
set_option Elab.async false
set_option linter.all false
set_option maxRecDepth 100000
/-! Trees of joins, their lots, and what stands at the top behind some of them. Plain mathematics. -/
namespace LM

/-! ### ascending lists -/
abbrev Asc (l : List Nat) : Prop := l.Pairwise (· < ·)
theorem Asc.nodup {l : List Nat} (h : Asc l) : l.Nodup := h.imp fun h => by omega
def sn (l : List Nat) : List Nat := l.mergeSort (fun a b => decide (a ≤ b))
theorem sn_perm (l : List Nat) : (sn l).Perm l := List.mergeSort_perm l _
theorem sn_le (l : List Nat) : (sn l).Pairwise (· ≤ ·) := by
  have h := List.pairwise_mergeSort (le := fun a b : Nat => decide (a ≤ b)) (fun a b c => by simp; omega) (fun a b => by simp; omega) l
  exact h.imp fun h => by simpa using h
theorem sn_asc {l : List Nat} (h : l.Nodup) : Asc (sn l) := by
  have n : (sn l).Nodup := (sn_perm l).nodup_iff.mpr h
  have := (sn_le l).and n
  exact this.imp fun h => by omega
theorem mem_sn {l : List Nat} {x : Nat} : x ∈ sn l ↔ x ∈ l := (sn_perm l).mem_iff
theorem asc_ext {l m : List Nat} (hl : Asc l) (hm : Asc m) (h : ∀ x, x ∈ l ↔ x ∈ m) : l = m := by
  have p : l.Perm m := (List.perm_ext_iff_of_nodup hl.nodup hm.nodup).mpr h
  exact p.eq_of_pairwise (le := (· < ·)) (fun a b _ _ h1 h2 => by omega) hl hm
theorem sn_of_asc {l : List Nat} (h : Asc l) : sn l = l := asc_ext (sn_asc h.nodup) h fun _ => mem_sn
theorem asc_filter {l : List Nat} (p : Nat → Bool) (h : Asc l) : Asc (l.filter p) := h.filter p
theorem asc_head {l : List Nat} (h : Asc l) {m : Nat} (hm : m ∈ l) (hle : ∀ x ∈ l, m ≤ x) : ∃ t, l = m :: t := by
  cases l with
  | nil => cases hm
  | cons a t =>
    have h1 := hle a (List.mem_cons_self ..)
    rcases List.mem_cons.mp hm with rfl | hm
    · exact ⟨t, rfl⟩
    · have := (List.pairwise_cons.mp h).1 m hm
      omega
theorem asc_two {l : List Nat} (h : Asc l) {a b : Nat} (hab : a < b) (hm : ∀ x, x ∈ l ↔ x = a ∨ x = b) : l = [a, b] :=
  asc_ext h (by simp [Asc, hab]) fun x => by simp [hm]

/-! ### trees -/
inductive Pl where
  | leaf (s : Nat)
  | node (a b : Pl)
deriving DecidableEq
def leaves : Pl → List Nat
  | .leaf s => [s]
  | .node a b => leaves a ++ leaves b
def subs : Pl → List Pl
  | .leaf s => [.leaf s]
  | .node a b => .node a b :: (subs a ++ subs b)
def lot (p : Pl) : List Nat := sn (leaves p)
def lmin : Pl → Nat
  | .leaf s => s
  | .node a b => min (lmin a) (lmin b)
def formed : Pl → Pl
  | .leaf s => .leaf s
  | .node a b => if lmin a < lmin b then .node (formed a) (formed b) else .node (formed b) (formed a)
theorem mem_lot {p : Pl} {x : Nat} : x ∈ lot p ↔ x ∈ leaves p := mem_sn
theorem lot_len (p : Pl) : (lot p).length = (leaves p).length := (sn_perm _).length_eq
theorem lmin_mem : ∀ p : Pl, lmin p ∈ leaves p
  | .leaf s => by simp [lmin, leaves]
  | .node a b => by
    have := lmin_mem a
    have := lmin_mem b
    simp only [lmin, leaves, List.mem_append]
    rcases Nat.le_total (lmin a) (lmin b) with h | h
    · rw [Nat.min_eq_left h]; exact .inl ‹_›
    · rw [Nat.min_eq_right h]; exact .inr ‹_›
theorem lmin_le : ∀ (p : Pl) (x : Nat), x ∈ leaves p → lmin p ≤ x
  | .leaf s, x, h => by simp [leaves] at h; simp [lmin, h]
  | .node a b, x, h => by
    simp only [leaves, List.mem_append] at h
    simp only [lmin]
    rcases h with h | h
    · have := lmin_le a x h; omega
    · have := lmin_le b x h; omega
theorem leaves_pos (p : Pl) : 0 < (leaves p).length := List.length_pos_of_mem (lmin_mem p)
theorem self_sub (p : Pl) : p ∈ subs p := by cases p <;> simp [subs]
theorem sub_leaves : ∀ {p q : Pl}, q ∈ subs p → ∀ x ∈ leaves q, x ∈ leaves p
  | .leaf s, q, h, x, hx => by simp [subs] at h; subst h; exact hx
  | .node a b, q, h, x, hx => by
    simp only [subs, List.mem_cons, List.mem_append] at h
    rcases h with rfl | h | h
    · exact hx
    · exact List.mem_append_left _ (sub_leaves h x hx)
    · exact List.mem_append_right _ (sub_leaves h x hx)
theorem sub_trans : ∀ {p q r : Pl}, r ∈ subs q → q ∈ subs p → r ∈ subs p
  | .leaf s, q, r, h, k => by simp [subs] at k; subst k; exact h
  | .node a b, q, r, h, k => by
    simp only [subs, List.mem_cons, List.mem_append] at k
    rcases k with rfl | k | k
    · exact h
    · exact List.mem_cons_of_mem _ (List.mem_append_left _ (sub_trans h k))
    · exact List.mem_cons_of_mem _ (List.mem_append_right _ (sub_trans h k))
theorem sub_nodup : ∀ {p q : Pl}, q ∈ subs p → (leaves p).Nodup → (leaves q).Nodup
  | .leaf s, q, h, n => by simp [subs] at h; subst h; exact n
  | .node a b, q, h, n => by
    simp only [subs, List.mem_cons, List.mem_append] at h
    obtain ⟨n1, n2, _⟩ := List.nodup_append.mp n
    rcases h with rfl | h | h
    · exact n
    · exact sub_nodup h n1
    · exact sub_nodup h n2
theorem sub_len : ∀ {p q : Pl}, q ∈ subs p → q = p ∨ (leaves q).length < (leaves p).length
  | .leaf s, q, h => by simp [subs] at h; exact .inl h
  | .node a b, q, h => by
    simp only [subs, List.mem_cons, List.mem_append] at h
    have := leaves_pos a
    have := leaves_pos b
    rcases h with rfl | h | h
    · exact .inl rfl
    · refine .inr ?_
      simp only [leaves, List.length_append]
      rcases sub_len h with rfl | h <;> omega
    · refine .inr ?_
      simp only [leaves, List.length_append]
      rcases sub_len h with rfl | h <;> omega
theorem node_apart {a b : Pl} (n : (leaves (.node a b)).Nodup) {q r : Pl} (hq : q ∈ subs a) (hr : r ∈ subs b) : ∀ x ∈ leaves q, x ∉ leaves r := by
  intro x h1 h2
  exact (List.nodup_append.mp n).2.2 x (sub_leaves hq x h1) x (sub_leaves hr x h2) rfl
theorem lot_asc {p : Pl} (n : (leaves p).Nodup) : Asc (lot p) := sn_asc n
theorem lot_head {p : Pl} (n : (leaves p).Nodup) : ∃ t, lot p = lmin p :: t :=
  asc_head (lot_asc n) (mem_lot.mpr (lmin_mem p)) fun x h => lmin_le p x (mem_lot.mp h)
theorem lot_inj : ∀ {p q r : Pl}, (leaves p).Nodup → q ∈ subs p → r ∈ subs p → lot q = lot r → q = r := by
  intro p
  induction p with
  | leaf s =>
    intro q r n hq hr e
    simp [subs] at hq hr
    rw [hq, hr]
  | node a b iha ihb =>
    intro q r n hq hr e
    have ee : ∀ x, x ∈ leaves q ↔ x ∈ leaves r := fun x => by rw [← mem_lot, e, mem_lot]
    obtain ⟨n1, n2, n3⟩ := List.nodup_append.mp n
    simp only [subs, List.mem_cons, List.mem_append] at hq hr
    rcases hq with rfl | hq | hq <;> rcases hr with rfl | hr | hr
    · rfl
    · have h1 : lmin b ∈ leaves (.node a b) := List.mem_append_right _ (lmin_mem b)
      have h2 := sub_leaves hr _ ((ee _).mp h1)
      exact absurd rfl (n3 _ h2 _ (lmin_mem b))
    · have h1 : lmin a ∈ leaves (.node a b) := List.mem_append_left _ (lmin_mem a)
      have h2 := sub_leaves hr _ ((ee _).mp h1)
      exact absurd rfl (n3 _ (lmin_mem a) _ h2)
    · have h1 : lmin b ∈ leaves (.node a b) := List.mem_append_right _ (lmin_mem b)
      have h2 := sub_leaves hq _ ((ee _).mpr h1)
      exact absurd rfl (n3 _ h2 _ (lmin_mem b))
    · exact iha n1 hq hr e
    · exact absurd rfl (n3 _ (sub_leaves hq _ (lmin_mem q)) _ (sub_leaves hr _ ((ee _).mp (lmin_mem q))))
    · have h1 : lmin a ∈ leaves (.node a b) := List.mem_append_left _ (lmin_mem a)
      have h2 := sub_leaves hq _ ((ee _).mpr h1)
      exact absurd rfl (n3 _ (lmin_mem a) _ h2)
    · exact absurd rfl (n3 _ (sub_leaves hr _ ((ee _).mp (lmin_mem q))) _ (sub_leaves hq _ (lmin_mem q)))
    · exact ihb n2 hq hr e
theorem subs_nodup : ∀ {p : Pl}, (leaves p).Nodup → (subs p).Nodup
  | .leaf s, _ => by simp [subs]
  | .node a b, n => by
    obtain ⟨n1, n2, n3⟩ := List.nodup_append.mp n
    refine List.nodup_cons.mpr ⟨fun h => ?_, List.nodup_append.mpr ⟨subs_nodup n1, subs_nodup n2, fun q hq r hr e => ?_⟩⟩
    · have pa := leaves_pos a
      have pb := leaves_pos b
      rcases List.mem_append.mp h with h | h
      · rcases sub_len h with e | e
        · have := congrArg (fun z => (leaves z).length) e
          simp only [leaves, List.length_append] at this
          omega
        · simp only [leaves, List.length_append] at e
          omega
      · rcases sub_len h with e | e
        · have := congrArg (fun z => (leaves z).length) e
          simp only [leaves, List.length_append] at this
          omega
        · simp only [leaves, List.length_append] at e
          omega
    · subst e
      exact node_apart n hq hr _ (lmin_mem q) (lmin_mem q)
theorem lots_nodup {p : Pl} (n : (leaves p).Nodup) : ((subs p).map lot).Nodup := by
  have h := subs_nodup n
  have : ∀ l : List Pl, (∀ q ∈ l, q ∈ subs p) → l.Nodup → (l.map lot).Nodup := by
    intro l
    induction l with
    | nil => intro _ _; exact List.nodup_nil
    | cons q l ih =>
      intro hs hn
      obtain ⟨h1, h2⟩ := List.nodup_cons.mp hn
      rw [List.map_cons]
      refine List.nodup_cons.mpr ⟨fun m => ?_, ih (fun r hr => hs r (List.mem_cons_of_mem _ hr)) h2⟩
      obtain ⟨r, m1, e⟩ := List.mem_map.mp m
      rw [lot_inj n (hs r (List.mem_cons_of_mem _ m1)) (hs q (List.mem_cons_self ..)) e] at m1
      exact h1 m1
  exact this _ (fun _ h => h) h
theorem subs_len : ∀ p : Pl, (subs p).length + 1 = 2 * (leaves p).length
  | .leaf s => rfl
  | .node a b => by
    have := subs_len a
    have := subs_len b
    simp only [subs, leaves, List.length_cons, List.length_append]
    omega

/-! ### the form -/
theorem formed_leaves : ∀ p : Pl, (leaves (formed p)).Perm (leaves p)
  | .leaf s => .refl _
  | .node a b => by
    have h1 := formed_leaves a
    have h2 := formed_leaves b
    unfold formed
    split
    · exact h1.append h2
    · exact (h2.append h1).trans List.perm_append_comm
theorem sn_congr {l m : List Nat} (h : l.Perm m) : sn l = sn m := by
  have p : (sn l).Perm (sn m) := ((sn_perm l).trans h).trans (sn_perm m).symm
  exact p.eq_of_pairwise (le := (· ≤ ·)) (fun a b _ _ h1 h2 => by omega) (sn_le l) (sn_le m)
theorem lot_formed (p : Pl) : lot (formed p) = lot p := sn_congr (formed_leaves p)
theorem formed_nodup {p : Pl} (n : (leaves p).Nodup) : (leaves (formed p)).Nodup := (formed_leaves p).nodup_iff.mpr n
theorem lmin_formed (p : Pl) : lmin (formed p) = lmin p := by
  have e := formed_leaves p
  have h1 := lmin_le _ _ (e.mem_iff.mpr (lmin_mem p))
  have h2 := lmin_le _ _ (e.mem_iff.mp (lmin_mem (formed p)))
  omega
theorem formed_lots : ∀ p : Pl, ((subs (formed p)).map lot).Perm ((subs p).map lot)
  | .leaf s => .refl _
  | .node a b => by
    have h1 := formed_lots a
    have h2 := formed_lots b
    have e : lot (formed (.node a b)) = lot (.node a b) := lot_formed _
    unfold formed at e ⊢
    split
    · rename_i h
      rw [if_pos h] at e
      simp only [subs, List.map_cons, List.map_append]
      rw [e]
      exact (h1.append h2).cons _
    · rename_i h
      rw [if_neg h] at e
      simp only [subs, List.map_cons, List.map_append]
      rw [e]
      exact ((h2.append h1).trans List.perm_append_comm).cons _

/-! ### what stands at the top -/
def tops (P : Pl → Bool) : Pl → List Pl
  | .leaf s => if P (.leaf s) = true then [.leaf s] else []
  | .node a b => if P (.node a b) = true then [.node a b] else tops P a ++ tops P b
theorem tops_sub {P : Pl → Bool} : ∀ {p q : Pl}, q ∈ tops P p → q ∈ subs p ∧ P q = true
  | .leaf s, q, h => by
    unfold tops at h
    split at h
    · simp at h; subst h; exact ⟨self_sub _, by assumption⟩
    · cases h
  | .node a b, q, h => by
    unfold tops at h
    split at h
    · simp at h; subst h; exact ⟨self_sub _, by assumption⟩
    · rcases List.mem_append.mp h with h | h
      · obtain ⟨h1, h2⟩ := tops_sub h
        exact ⟨List.mem_cons_of_mem _ (List.mem_append_left _ h1), h2⟩
      · obtain ⟨h1, h2⟩ := tops_sub h
        exact ⟨List.mem_cons_of_mem _ (List.mem_append_right _ h1), h2⟩
theorem tops_congr {P P' : Pl → Bool} : ∀ {p : Pl}, (∀ r ∈ subs p, P' r = P r) → tops P' p = tops P p
  | .leaf s, h => by unfold tops; rw [h _ (self_sub _)]
  | .node a b, h => by
    unfold tops
    rw [h _ (self_sub _), tops_congr (p := a) fun r m => h r (List.mem_cons_of_mem _ (List.mem_append_left _ m)), tops_congr (p := b) fun r m => h r (List.mem_cons_of_mem _ (List.mem_append_right _ m))]
theorem tops_true {P : Pl → Bool} {p : Pl} (h : P p = true) : tops P p = [p] := by
  cases p <;> unfold tops <;> rw [if_pos h]
theorem tops_split {P P' : Pl → Bool} {x : Pl} : ∀ {p : Pl}, (leaves p).Nodup → x ∈ subs p → (∀ r ∈ subs p, x ∈ subs r → r ≠ x → P r = false) → (∀ r ∈ subs p, P' r = (P r || decide (r = x))) →
    ∃ U V, tops P p = U ++ tops P x ++ V ∧ tops P' p = U ++ [x] ++ V ∧ ∀ q ∈ U ++ V, ∀ y ∈ leaves q, y ∉ leaves x := by
  intro p
  induction p with
  | leaf s =>
    intro n hx h1 h2
    simp [subs] at hx
    subst hx
    refine ⟨[], [], by simp, ?_, fun q m => nomatch m⟩
    rw [tops_true (by rw [h2 _ (self_sub _)]; simp)]
    rfl
  | node a b iha ihb =>
    intro n hx h1 h2
    by_cases c : Pl.node a b = x
    · subst c
      refine ⟨[], [], by simp, ?_, fun q m => nomatch m⟩
      rw [tops_true (by rw [h2 _ (self_sub _)]; simp)]
      rfl
    · have hP : P (.node a b) = false := h1 _ (self_sub _) hx c
      have hP' : P' (.node a b) = false := by rw [h2 _ (self_sub _), hP]; simp [c]
      have t1 : tops P (.node a b) = tops P a ++ tops P b := by rw [tops, if_neg (by rw [hP]; decide)]
      have t2 : tops P' (.node a b) = tops P' a ++ tops P' b := by rw [tops, if_neg (by rw [hP']; decide)]
      obtain ⟨n1, n2, _⟩ := List.nodup_append.mp n
      have inA : ∀ r ∈ subs a, r ∈ subs (.node a b) := fun r m => List.mem_cons_of_mem _ (List.mem_append_left _ m)
      have inB : ∀ r ∈ subs b, r ∈ subs (.node a b) := fun r m => List.mem_cons_of_mem _ (List.mem_append_right _ m)
      have hx' := hx
      simp only [subs, List.mem_cons, List.mem_append] at hx'
      rcases hx' with hx' | hx' | hx'
      · exact absurd hx'.symm c
      · obtain ⟨U, V, e1, e2, e3⟩ := iha n1 hx' (fun r m => h1 r (inA r m)) (fun r m => h2 r (inA r m))
        have e4 : tops P' b = tops P b := tops_congr fun r m => by
          rw [h2 r (inB r m), show decide (r = x) = false from ?_, Bool.or_false]
          simp only [decide_eq_false_iff_not]
          intro e
          subst e
          exact node_apart n hx' m _ (lmin_mem r) (lmin_mem r)
        refine ⟨U, V ++ tops P b, by rw [t1, e1]; simp, by rw [t2, e2, e4]; simp, fun q m y hy => ?_⟩
        rw [← List.append_assoc] at m
        rcases List.mem_append.mp m with m | m
        · exact e3 q m y hy
        · exact fun hy' => node_apart n hx' (tops_sub m).1 y hy' hy
      · obtain ⟨U, V, e1, e2, e3⟩ := ihb n2 hx' (fun r m => h1 r (inB r m)) (fun r m => h2 r (inB r m))
        have e4 : tops P' a = tops P a := tops_congr fun r m => by
          rw [h2 r (inA r m), show decide (r = x) = false from ?_, Bool.or_false]
          simp only [decide_eq_false_iff_not]
          intro e
          subst e
          exact node_apart n m hx' _ (lmin_mem r) (lmin_mem r)
        refine ⟨tops P a ++ U, V, by rw [t1, e1]; simp, by rw [t2, e2, e4]; simp, fun q m y hy => ?_⟩
        rw [List.append_assoc] at m
        rcases List.mem_append.mp m with m | m
        · exact fun hy' => node_apart n (tops_sub m).1 hx' y hy hy'
        · exact e3 q m y hy
/-- the lots behind which tree x of p is next -/
structure Next (p x : Pl) (S : List (List Nat)) : Prop where
  nd : (leaves p).Nodup
  sub : x ∈ subs p
  new : lot x ∉ S
  small : ∀ y ∈ subs p, (leaves y).length < (leaves x).length → lot y ∈ S
  great : ∀ y ∈ subs p, lot y ∈ S → (leaves y).length ≤ (leaves x).length
def done (S : List (List Nat)) (q : Pl) : Bool := decide (lot q ∈ S)
/-- what stands at the top within x -/
def kids : Pl → List Pl
  | .leaf _ => []
  | .node a b => [a, b]
theorem next_split {p x : Pl} {S : List (List Nat)} (h : Next p x S) : ∃ U V, tops (done S) p = U ++ kids x ++ V ∧ tops (done (S ++ [lot x])) p = U ++ [x] ++ V ∧ ∀ q ∈ U ++ V, ∀ y ∈ leaves q, y ∉ leaves x := by
  have g1 : ∀ r ∈ subs p, x ∈ subs r → r ≠ x → done S r = false := by
    intro r hr hx hne
    simp only [done, decide_eq_false_iff_not]
    intro m
    have := h.great r hr m
    rcases sub_len hx with e | e
    · exact hne e.symm
    · omega
  have g2 : ∀ r ∈ subs p, done (S ++ [lot x]) r = (done S r || decide (r = x)) := by
    intro r hr
    simp only [done, List.mem_append, List.mem_singleton]
    by_cases c : r = x
    · subst c; simp
    · have : ¬ lot r = lot x := fun e => c (lot_inj h.nd hr h.sub e)
      simp [c, this]
  obtain ⟨U, V, e1, e2, e3⟩ := tops_split h.nd h.sub g1 g2
  refine ⟨U, V, ?_, e2, e3⟩
  rw [e1]
  have hx : done S x = false := by simp [done, h.new]
  cases x with
  | leaf s => rw [tops, if_neg (by rw [hx]; decide)]; rfl
  | node a b =>
    have pa := leaves_pos a
    have pb := leaves_pos b
    have hs : leaves (Pl.node a b) = leaves a ++ leaves b := rfl
    have ha : done S a = true := by
      simp only [done, decide_eq_true_eq]
      refine h.small a (sub_trans (q := .node a b) (List.mem_cons_of_mem _ (List.mem_append_left _ (self_sub a))) h.sub) ?_
      rw [hs, List.length_append]
      omega
    have hb : done S b = true := by
      simp only [done, decide_eq_true_eq]
      refine h.small b (sub_trans (q := .node a b) (List.mem_cons_of_mem _ (List.mem_append_right _ (self_sub b))) h.sub) ?_
      rw [hs, List.length_append]
      omega
    rw [tops, if_neg (by rw [hx]; decide), tops_true ha, tops_true hb]
    rfl
theorem tops_nil {p : Pl} : tops (done []) p = [] := by
  induction p with
  | leaf s => simp [tops, done]
  | node a b iha ihb => simp only [tops, iha, ihb]; simp [done]
theorem tops_all {p : Pl} {S : List (List Nat)} (h : lot p ∈ S) : tops (done S) p = [p] := tops_true (by simp [done, h])
end LM


namespace LM

/-! ### the order of lots -/
def lx : List Nat → List Nat → Bool
  | [], [] => false
  | [], _ :: _ => true
  | _ :: _, [] => false
  | x :: xs, y :: ys => if x = y then lx xs ys else decide (x < y)
theorem lx_irr : ∀ x, lx x x = false
  | [] => rfl
  | a :: x => by simp [lx, lx_irr x]
theorem lx_asym : ∀ x y, lx x y = true → lx y x = false
  | [], [], h => by cases h
  | [], _ :: _, _ => rfl
  | _ :: _, [], h => by cases h
  | a :: x, b :: y, h => by
    unfold lx at h ⊢
    by_cases c : a = b
    · subst c
      simp only [if_true] at h ⊢
      exact lx_asym x y h
    · rw [if_neg c] at h
      rw [if_neg (fun z => c z.symm)]
      simp at h ⊢
      omega
theorem lx_tot : ∀ x y, lx x y = false → lx y x = false → x = y
  | [], [], _, _ => rfl
  | [], _ :: _, h, _ => by cases h
  | _ :: _, [], _, h => by cases h
  | a :: x, b :: y, h, k => by
    unfold lx at h k
    by_cases c : a = b
    · subst c
      simp only [if_true] at h k
      rw [lx_tot x y h k]
    · rw [if_neg c] at h
      rw [if_neg (fun z => c z.symm)] at k
      simp at h k
      omega
theorem lx_tr : ∀ x y z, lx y x = false → lx z y = false → lx z x = false
  | x, [], [], h, _ => by
    cases x with
    | nil => rfl
    | cons a x => exact h
  | [], [], _ :: _, _, _ => rfl
  | _ :: _, [], _, h, _ => by cases h
  | _, _ :: _, [], _, h => by cases h
  | [], _ :: _, _ :: _, _, _ => rfl
  | a :: x, b :: y, c :: z, h, k => by
    unfold lx at h k ⊢
    by_cases e : b = a
    · subst e
      simp only [if_true] at h
      by_cases f : c = b
      · subst f
        simp only [if_true] at k ⊢
        exact lx_tr x y z h k
      · rw [if_neg f] at k ⊢
        exact k
    · rw [if_neg e] at h
      simp at h
      by_cases f : c = b
      · subst f
        rw [if_neg e]
        simp
        exact h
      · rw [if_neg f] at k
        simp at k
        rw [if_neg (by omega)]
        simp
        omega
def srt (l : List (List Nat)) : List (List Nat) := l.mergeSort (fun a b => !lx b a)
theorem srt_perm (l : List (List Nat)) : (srt l).Perm l := List.mergeSort_perm l _
theorem srt_pw (l : List (List Nat)) : (srt l).Pairwise (fun a b => lx b a = false) := by
  have h := List.pairwise_mergeSort (le := fun a b : List Nat => !lx b a) (fun a b c h k => by simp at h k ⊢; exact lx_tr a b c h k) (fun a b => by
    cases e : lx b a with
    | false => simp
    | true => simp [lx_asym _ _ e]) l
  exact h.imp fun h => by simpa using h
theorem srt_congr {l m : List (List Nat)} (h : l.Perm m) : srt l = srt m := by
  have p : (srt l).Perm (srt m) := ((srt_perm l).trans h).trans (srt_perm m).symm
  exact p.eq_of_pairwise (le := fun a b => lx b a = false) (fun a b _ _ h1 h2 => lx_tot _ _ h2 h1) (srt_pw l) (srt_pw m)
theorem mem_srt {l : List (List Nat)} {x : List Nat} : x ∈ srt l ↔ x ∈ l := (srt_perm l).mem_iff
theorem srt_strict {l : List (List Nat)} (n : l.Nodup) : (srt l).Pairwise (fun a b => lx a b = true) := by
  have := (srt_pw l).and ((srt_perm l).nodup_iff.mpr n)
  exact this.imp fun {a b} h => by
    cases e : lx a b with
    | true => rfl
    | false => exact absurd (lx_tot _ _ e h.1) h.2
theorem strict_srt {l : List (List Nat)} (h : l.Pairwise (fun a b => lx a b = true)) : srt l = l := by
  have p := srt_perm l
  exact p.eq_of_pairwise (le := fun a b => lx b a = false) (fun a b _ _ h1 h2 => lx_tot _ _ h2 h1) (srt_pw l) (h.imp fun {a b} h => lx_asym _ _ h)
theorem strict_ext {l m : List (List Nat)} (hl : l.Pairwise (fun a b => lx a b = true)) (hm : m.Pairwise (fun a b => lx a b = true)) (h : ∀ x, x ∈ l ↔ x ∈ m) : l = m := by
  have n1 : l.Nodup := hl.imp fun {a b} h e => by subst e; rw [lx_irr] at h; cases h
  have n2 : m.Nodup := hm.imp fun {a b} h e => by subst e; rw [lx_irr] at h; cases h
  have p : l.Perm m := (List.perm_ext_iff_of_nodup n1 n2).mpr h
  rw [← strict_srt hl, ← strict_srt hm, srt_congr p]
def lots (p : Pl) : List (List Nat) := srt ((subs p).map lot)
theorem lots_formed (p : Pl) : lots (formed p) = lots p := srt_congr (formed_lots p)
theorem mem_lots {p : Pl} {l : List Nat} : l ∈ lots p ↔ ∃ q ∈ subs p, lot q = l := by rw [lots, mem_srt, List.mem_map]
theorem lots_nd {p : Pl} (n : (leaves p).Nodup) : (lots p).Nodup := (srt_perm _).nodup_iff.mpr (lots_nodup n)
theorem lots_len (p : Pl) : (lots p).length + 1 = 2 * (leaves p).length := by
  rw [lots, (srt_perm _).length_eq, List.length_map, subs_len]

/-! ### lots by their lengths -/
theorem next_of {p : Pl} (n : (leaves p).Nodup) {L S0 S1 : List (List Nat)} {l : List Nat} (hp : L.Perm ((subs p).map lot)) (hs : L.Pairwise fun a b => a.length ≤ b.length) (e : L = S0 ++ l :: S1) : ∃ x, lot x = l ∧ Next p x S0 := by
  have nd : L.Nodup := hp.nodup_iff.mpr (lots_nodup n)
  subst e
  obtain ⟨x, hx, rfl⟩ := List.mem_map.mp (hp.mem_iff.mp (List.mem_append_right S0 (List.mem_cons_self (a := l) (l := S1))))
  obtain ⟨s1, s2, s3⟩ := List.pairwise_append.mp hs
  obtain ⟨n1, n2, n3⟩ := List.nodup_append.mp nd
  refine ⟨x, rfl, n, hx, fun m => n3 _ m _ (List.mem_cons_self ..) rfl, fun y hy hl => ?_, fun y hy m => ?_⟩
  · have m := hp.mem_iff.mpr (List.mem_map.mpr ⟨y, hy, rfl⟩)
    rcases List.mem_append.mp m with m | m
    · exact m
    · rcases List.mem_cons.mp m with e | m
      · have := congrArg List.length e
        rw [lot_len, lot_len] at this
        omega
      · have := (List.pairwise_cons.mp s2).1 _ m
        rw [lot_len, lot_len] at this
        omega
  · have := s3 _ m _ (List.mem_cons_self ..)
    rw [lot_len, lot_len] at this
    exact this

/-! ### dicts -/
section
variable {κ β : Type} [DecidableEq κ]
def dget (kvs : List (κ × β)) (k : κ) : Option β := (kvs.find? fun kv => decide (kv.1 = k)).map (·.2)
def dput (kvs : List (κ × β)) (k : κ) (v : β) : List (κ × β) :=
  if (kvs.any fun kv => decide (kv.1 = k)) = true then kvs.map (fun kv => if kv.1 = k then (kv.1, v) else kv) else kvs ++ [(k, v)]
def ddrop (kvs : List (κ × β)) (k : κ) : List (κ × β) := kvs.filter fun kv => decide (kv.1 ≠ k)
theorem dget_mem {k : κ} {v : β} : ∀ {kvs : List (κ × β)}, (kvs.map (·.1)).Nodup → (k, v) ∈ kvs → dget kvs k = some v
  | (k1, v1) :: r, n, h => by
    obtain ⟨n1, n2⟩ := List.nodup_cons.mp (show (k1 :: r.map (·.1)).Nodup from n)
    unfold dget
    rw [List.find?_cons]
    rcases List.mem_cons.mp h with e | h
    · cases e
      simp
    · have : ¬ k1 = k := fun e => n1 (List.mem_map.mpr ⟨_, h, e.symm⟩)
      simp only [this, decide_false]
      exact dget_mem n2 h
theorem dget_none {k : κ} : ∀ {kvs : List (κ × β)}, k ∉ kvs.map (·.1) → dget kvs k = none
  | [], _ => rfl
  | (k1, v1) :: r, h => by
    have : ¬ k1 = k := fun e => h (by rw [List.map_cons]; exact List.mem_cons.mpr (.inl e.symm))
    unfold dget
    rw [List.find?_cons]
    simp only [this, decide_false]
    exact dget_none fun m => h (by rw [List.map_cons]; exact List.mem_cons_of_mem _ m)
theorem dget_some {k : κ} {kvs : List (κ × β)} : (dget kvs k).isSome = true ↔ k ∈ kvs.map (·.1) := by
  unfold dget
  rw [Option.isSome_map, List.find?_isSome]
  constructor
  · rintro ⟨kv, m, e⟩
    exact List.mem_map.mpr ⟨kv, m, by simpa using e⟩
  · intro m
    obtain ⟨kv, m, e⟩ := List.mem_map.mp m
    exact ⟨kv, m, by simpa using e⟩
theorem dput_new {k : κ} {v : β} {kvs : List (κ × β)} (h : k ∉ kvs.map (·.1)) : dput kvs k v = kvs ++ [(k, v)] := by
  unfold dput
  rw [if_neg]
  intro e
  obtain ⟨kv, m, e⟩ := List.any_eq_true.mp e
  exact h (List.mem_map.mpr ⟨kv, m, by simpa using e⟩)
theorem ddrop_perm {k : κ} {w : β} {kvs r : List (κ × β)} (p : kvs.Perm ((k, w) :: r)) (n : (kvs.map (·.1)).Nodup) : (ddrop kvs k).Perm r := by
  have n' := (p.map (·.1)).nodup_iff.mp n
  obtain ⟨n1, n2⟩ := List.nodup_cons.mp (show (k :: r.map (·.1)).Nodup from n')
  refine (p.filter _).trans ?_
  rw [List.filter_cons]
  simp only [ne_eq, not_true_eq_false, decide_false, Bool.false_eq_true, if_false]
  rw [List.filter_eq_self.mpr]
  intro kv m
  simp only [decide_eq_true_eq]
  intro e
  exact n1 (List.mem_map.mpr ⟨kv, m, e⟩)
theorem dput_old {k : κ} {v w : β} {kvs r : List (κ × β)} (p : kvs.Perm ((k, w) :: r)) (n : (kvs.map (·.1)).Nodup) : (dput kvs k v).Perm ((k, v) :: r) := by
  have n' := (p.map (·.1)).nodup_iff.mp n
  obtain ⟨n1, n2⟩ := List.nodup_cons.mp (show (k :: r.map (·.1)).Nodup from n')
  unfold dput
  rw [if_pos]
  · refine (p.map _).trans ?_
    rw [List.map_cons]
    simp only [if_true]
    refine List.Perm.cons _ ?_
    rw [show r.map (fun kv => if kv.1 = k then (kv.1, v) else kv) = r from ?_]
    conv => rhs; rw [← List.map_id r]
    refine List.map_congr_left fun kv m => ?_
    rw [if_neg (fun e => n1 (List.mem_map.mpr ⟨kv, m, e⟩))]
    rfl
  · refine List.any_eq_true.mpr ⟨(k, w), p.mem_iff.mpr (List.mem_cons_self ..), by simp⟩
end
theorem tops_apart {P : Pl → Bool} : ∀ {p : Pl}, (leaves p).Nodup → (tops P p).Pairwise fun q r => ∀ y ∈ leaves q, y ∉ leaves r
  | .leaf s, _ => by unfold tops; split <;> simp
  | .node a b, n => by
    obtain ⟨n1, n2, n3⟩ := List.nodup_append.mp n
    unfold tops
    split
    · simp
    · exact List.pairwise_append.mpr ⟨tops_apart n1, tops_apart n2, fun q hq r hr => node_apart n (tops_sub hq).1 (tops_sub hr).1⟩
theorem keys_nodup {κ : Type} {f : Pl → κ} {P : Pl → Bool} {p : Pl} (n : (leaves p).Nodup) (hf : ∀ q r, f q = f r → ∃ y, y ∈ leaves q ∧ y ∈ leaves r) : ((tops P p).map f).Nodup := by
  refine List.pairwise_map.mpr ((tops_apart n).imp fun {q r} h e => ?_)
  obtain ⟨y, h1, h2⟩ := hf q r e
  exact h y h1 h2
end LM


namespace LM

/-- the dict of what stands at the top -/
def dic {κ β : Type} (kf : Pl → κ) (vf : Pl → β) (P : Pl → Bool) (p : Pl) : List (κ × β) := (tops P p).map fun q => (kf q, vf q)
section
variable {κ β : Type} [DecidableEq κ] {kf : Pl → κ} {vf : Pl → β} {p x : Pl} {S : List (List Nat)} {D : List (κ × β)}
theorem dic_keys (n : (leaves p).Nodup) (hf : ∀ q r, kf q = kf r → ∃ y, y ∈ leaves q ∧ y ∈ leaves r) {P : Pl → Bool} (hD : D.Perm (dic kf vf P p)) : (D.map (·.1)).Nodup := by
  refine (hD.map (·.1)).nodup_iff.mpr ?_
  unfold dic
  rw [List.map_map]
  exact keys_nodup n hf
/-- a tree of one shire comes -/
theorem step_leaf {s : Nat} (h : Next p (.leaf s) S) (hD : D.Perm (dic kf vf (done S) p)) :
    (∀ q k v, (k, v) ∈ D → k = kf q → q ∈ tops (done S) p → s ∉ leaves q) ∧ (∀ kv ∈ D, ∃ q ∈ tops (done S) p, kv = (kf q, vf q) ∧ s ∉ leaves q) ∧
    (D ++ [(kf (.leaf s), vf (.leaf s))]).Perm (dic kf vf (done (S ++ [lot (.leaf s)])) p) := by
  obtain ⟨U, V, e1, e2, e3⟩ := next_split h
  have e1 : tops (done S) p = U ++ V := by rw [e1]; simp [kids]
  have a : ∀ q ∈ tops (done S) p, s ∉ leaves q := fun q m hs => e3 q (by rw [← e1]; exact m) s hs (by simp [leaves])
  refine ⟨fun q k v _ _ m => a q m, fun kv m => ?_, ?_⟩
  · obtain ⟨q, m1, e⟩ := List.mem_map.mp (hD.mem_iff.mp m)
    exact ⟨q, m1, e.symm, a q m1⟩
  · unfold dic at hD ⊢
    rw [e2]
    rw [e1] at hD
    refine (hD.append_right _).trans ?_
    simp only [List.map_append, List.map_cons, List.map_nil, List.append_assoc]
    exact List.Perm.append_left _ List.perm_append_comm
/-- two trees come together -/
theorem step_node {a b : Pl} (h : Next p (.node a b) S) (hD : D.Perm (dic kf vf (done S) p)) :
    ∃ R : List (κ × β), D.Perm ((kf a, vf a) :: (kf b, vf b) :: R) ∧ (∀ kv ∈ R, ∃ q, kv = (kf q, vf q) ∧ ∀ y ∈ leaves q, y ∉ leaves (.node a b)) ∧
      ((kf (.node a b), vf (.node a b)) :: R).Perm (dic kf vf (done (S ++ [lot (.node a b)])) p) := by
  obtain ⟨U, V, e1, e2, e3⟩ := next_split h
  refine ⟨(U ++ V).map fun q => (kf q, vf q), ?_, fun kv m => ?_, ?_⟩
  · refine hD.trans ?_
    unfold dic
    rw [e1]
    simp only [kids, List.map_append, List.map_cons, List.map_nil, List.append_assoc]
    refine List.perm_middle.trans (List.Perm.cons _ ?_)
    exact List.perm_middle
  · obtain ⟨q, m, e⟩ := List.mem_map.mp m
    exact ⟨q, e.symm, e3 q m⟩
  · unfold dic
    rw [e2]
    simp only [List.map_append, List.map_cons, List.map_nil, List.append_assoc]
    exact List.perm_middle.symm
end

/-! ### the program's way: by least shires -/
section
variable {κ β : Type} [DecidableEq κ] {ke : Nat → κ} {ev : Pl → β} {pr : β → β → β} {p x : Pl} {S : List (List Nat)} {D : List (κ × β)}
abbrev kfm (ke : Nat → κ) : Pl → κ := fun q => ke (lmin q)
abbrev vfm (ev : Pl → β) : Pl → β := fun q => ev (formed q)
theorem kfm_apart (hk : ∀ i j, ke i = ke j → i = j) : ∀ q r, kfm ke q = kfm ke r → ∃ y, y ∈ leaves q ∧ y ∈ leaves r := fun q r e => ⟨lmin q, lmin_mem q, by rw [hk _ _ e]; exact lmin_mem r⟩
/-- what a step of the program does -/
theorem prog_step (hk : ∀ i j, ke i = ke j → i = j) (hp : ∀ a b, ev (.node a b) = pr (ev a) (ev b)) (h : Next p x S) (hD : D.Perm (dic (kfm ke) (vfm ev) (done S) p)) :
    (∃ s, x = .leaf s ∧ lot x = [s] ∧ (lot x).filter (fun s => (dget D (ke s)).isSome) = [] ∧ (dput D (ke s) (ev (.leaf s))).Perm (dic (kfm ke) (vfm ev) (done (S ++ [lot x])) p)) ∨
    (∃ k1 k2 v1 v2, (lot x).filter (fun s => (dget D (ke s)).isSome) = [k1, k2] ∧ dget D (ke k2) = some v2 ∧ dget (ddrop D (ke k2)) (ke k1) = some v1 ∧
      (dput (ddrop D (ke k2)) (ke k1) (pr v1 v2)).Perm (dic (kfm ke) (vfm ev) (done (S ++ [lot x])) p)) := by
  have nk := dic_keys h.nd (kfm_apart hk) hD
  cases x with
  | leaf s =>
    left
    have es : lot (.leaf s) = [s] := sn_of_asc (l := [s]) (by simp [Asc])
    obtain ⟨_, h1, h2⟩ := step_leaf h hD
    have hn : ke s ∉ D.map (·.1) := by
      intro m
      obtain ⟨kv, m, e⟩ := List.mem_map.mp m
      obtain ⟨q, _, e', hs⟩ := h1 kv m
      rw [e'] at e
      have := hk _ _ e
      subst this
      exact hs (lmin_mem q)
    refine ⟨s, rfl, es, ?_, ?_⟩
    · rw [es]
      simp [dget_none hn]
    · rw [dput_new hn]
      exact h2
  | node a b =>
    right
    obtain ⟨R, p1, p2, p3⟩ := step_node h hD
    have ab : (leaves (.node a b)).Nodup := sub_nodup h.sub h.nd
    obtain ⟨na, nb, nab⟩ := List.nodup_append.mp (show (leaves a ++ leaves b).Nodup from ab)
    have ne : lmin a ≠ lmin b := fun e => nab _ (lmin_mem a) _ (e ▸ lmin_mem b) rfl
    have ina : lmin a ∈ leaves (.node a b) := List.mem_append_left _ (lmin_mem a)
    have inb : lmin b ∈ leaves (.node a b) := List.mem_append_right _ (lmin_mem b)
    have fm : ∀ s, s ∈ (lot (.node a b)).filter (fun s => (dget D (ke s)).isSome) ↔ s = lmin a ∨ s = lmin b := by
      intro s
      rw [List.mem_filter, dget_some, mem_lot]
      constructor
      · rintro ⟨h1, h2⟩
        obtain ⟨kv, m, e⟩ := List.mem_map.mp h2
        rcases List.mem_cons.mp (p1.mem_iff.mp m) with rfl | m
        · exact .inl (hk _ _ e).symm
        · rcases List.mem_cons.mp m with rfl | m
          · exact .inr (hk _ _ e).symm
          · obtain ⟨q, rfl, hq⟩ := p2 kv m
            have := hk _ _ e
            subst this
            exact absurd h1 (hq _ (lmin_mem q))
      · rintro (rfl | rfl)
        · exact ⟨ina, List.mem_map.mpr ⟨_, p1.mem_iff.mpr (List.mem_cons_self ..), rfl⟩⟩
        · exact ⟨inb, List.mem_map.mpr ⟨_, p1.mem_iff.mpr (List.mem_cons_of_mem _ (List.mem_cons_self ..)), rfl⟩⟩
    have fa := asc_filter (fun s => (dget D (ke s)).isSome) (lot_asc ab)
    by_cases c : lmin a < lmin b
    · have p1' : D.Perm ((ke (lmin b), ev (formed b)) :: (ke (lmin a), ev (formed a)) :: R) := p1.trans (List.Perm.swap _ _ _)
      have q1 := ddrop_perm p1' nk
      have nq : ((ddrop D (ke (lmin b))).map (·.1)).Nodup := by
        have := (p1'.map (·.1)).nodup_iff.mp nk
        exact (q1.map (·.1)).nodup_iff.mpr (List.nodup_cons.mp this).2
      refine ⟨lmin a, lmin b, ev (formed a), ev (formed b), asc_two fa c fm, dget_mem nk (p1'.mem_iff.mpr (List.mem_cons_self ..)), dget_mem nq (q1.mem_iff.mpr (List.mem_cons_self ..)), ?_⟩
      refine (dput_old q1 nq).trans ?_
      have e1 : kfm ke (.node a b) = ke (lmin a) := by show ke (min _ _) = _; rw [Nat.min_eq_left (by omega)]
      have e2 : vfm ev (.node a b) = pr (ev (formed a)) (ev (formed b)) := by show ev (formed (.node a b)) = _; rw [formed, if_pos c, hp]
      rw [e1, e2] at p3
      exact p3
    · have c' : lmin b < lmin a := by omega
      have q1 := ddrop_perm p1 nk
      have nq : ((ddrop D (ke (lmin a))).map (·.1)).Nodup := by
        have := (p1.map (·.1)).nodup_iff.mp nk
        exact (q1.map (·.1)).nodup_iff.mpr (List.nodup_cons.mp this).2
      refine ⟨lmin b, lmin a, ev (formed b), ev (formed a), asc_two fa c' fun s => (fm s).trans (Or.comm), dget_mem nk (p1.mem_iff.mpr (List.mem_cons_self ..)), dget_mem nq (q1.mem_iff.mpr (List.mem_cons_self ..)), ?_⟩
      refine (dput_old q1 nq).trans ?_
      have e1 : kfm ke (.node a b) = ke (lmin b) := by show ke (min _ _) = _; rw [Nat.min_eq_right (by omega)]
      have e2 : vfm ev (.node a b) = pr (ev (formed b)) (ev (formed a)) := by show ev (formed (.node a b)) = _; rw [formed, if_neg c, hp]
      rw [e1, e2] at p3
      exact p3
end

/-! ### the law's way: by lots -/
section
variable {κ β : Type} [DecidableEq κ] {kl : List Nat → κ} {ev : Pl → β} {pr : β → β → β} {p x : Pl} {S : List (List Nat)} {D : List (κ × β)}
abbrev kfl (kl : List Nat → κ) : Pl → κ := fun q => kl (lot q)
theorem kfl_apart (hk : ∀ i j, kl i = kl j → i = j) : ∀ q r, kfl kl q = kfl kl r → ∃ y, y ∈ leaves q ∧ y ∈ leaves r := fun q r e => ⟨lmin q, lmin_mem q, by rw [← mem_lot, ← hk _ _ e, mem_lot]; exact lmin_mem q⟩
theorem lx_heads {a b : Nat} {s t : List Nat} (h : a < b) : lx (a :: s) (b :: t) = true := by
  unfold lx
  rw [if_neg (by omega)]
  simpa using h
theorem law_step (hk : ∀ i j, kl i = kl j → i = j) (hp : ∀ a b, ev (.node a b) = pr (ev a) (ev b)) (h : Next p x S) (hD : D.Perm (dic (kfl kl) (vfm ev) (done S) p)) :
    ∃ ks : List (List Nat), ks.map kl = D.map (·.1) ∧ (∀ k ∈ ks, ∃ i t, k = i :: t) ∧
    ((∃ s, x = .leaf s ∧ lot x = [s] ∧ (srt ks).filter (fun k => decide (k.headD 0 ∈ lot x)) = [] ∧ (dput D (kl (lot x)) (ev (.leaf s))).Perm (dic (kfl kl) (vfm ev) (done (S ++ [lot x])) p)) ∨
    (∃ k1 k2 v1 v2, (srt ks).filter (fun k => decide (k.headD 0 ∈ lot x)) = [k1, k2] ∧ dget D (kl k1) = some v1 ∧ dget D (kl k2) = some v2 ∧ (dget (ddrop D (kl k1)) (kl k2)).isSome = true ∧
      (dput (ddrop (ddrop D (kl k1)) (kl k2)) (kl (lot x)) (pr v1 v2)).Perm (dic (kfl kl) (vfm ev) (done (S ++ [lot x])) p))) := by
  have nk := dic_keys h.nd (kfl_apart hk) hD
  have hks : ∃ ks : List (List Nat), ks.map kl = D.map (·.1) ∧ ks.Perm ((tops (done S) p).map lot) := by
    have h0 : (D.map (·.1)).Perm (((tops (done S) p).map lot).map kl) := by
      refine (hD.map (·.1)).trans ?_
      unfold dic
      rw [List.map_map, List.map_map]
      exact .refl _
    clear hD nk
    generalize D.map (·.1) = E at h0
    generalize (tops (done S) p).map lot = T at h0
    have : ∀ {E F : List κ}, E.Perm F → ∀ T : List (List Nat), F = T.map kl → ∃ ks : List (List Nat), ks.map kl = E ∧ ks.Perm T := by
      intro E F hh
      induction hh with
      | nil => intro T e; exact ⟨[], rfl, by have := (List.map_eq_nil_iff.mp e.symm); rw [this]⟩
      | cons y _ ih =>
        intro T e
        cases T with
        | nil => cases e
        | cons t T =>
          rw [List.map_cons] at e
          obtain ⟨e1, e2⟩ := List.cons.inj e
          obtain ⟨ks, k1, k2⟩ := ih T e2
          exact ⟨t :: ks, by rw [List.map_cons, k1, e1], k2.cons _⟩
      | swap y z l =>
        intro T e
        match T, e with
        | t :: u :: T, e =>
          rw [List.map_cons, List.map_cons] at e
          obtain ⟨e1, e2⟩ := List.cons.inj e
          obtain ⟨e2, e3⟩ := List.cons.inj e2
          exact ⟨u :: t :: T, by rw [List.map_cons, List.map_cons, e1, e2, e3], List.Perm.swap _ _ _⟩
      | trans _ _ ih1 ih2 =>
        intro T e
        obtain ⟨ks, k1, k2⟩ := ih2 T e
        obtain ⟨js, j1, j2⟩ := ih1 ks k1.symm
        exact ⟨js, j1, j2.trans k2⟩
    exact this h0 T rfl
  obtain ⟨ks, k1, k2⟩ := hks
  have nks : ks.Nodup := by
    have : (ks.map kl).Nodup := by rw [k1]; exact nk
    exact (List.pairwise_map.mp this).imp fun h e => h (by rw [e])
  have hd : ∀ k ∈ ks, ∃ q ∈ tops (done S) p, lot q = k := fun k m => List.mem_map.mp (k2.mem_iff.mp m)
  refine ⟨ks, k1, fun k m => ?_, ?_⟩
  · obtain ⟨q, m1, rfl⟩ := hd k m
    obtain ⟨t, e⟩ := lot_head (sub_nodup (tops_sub m1).1 h.nd)
    exact ⟨_, _, e⟩
  have strict := srt_strict nks
  cases x with
  | leaf s =>
    left
    have es : lot (.leaf s) = [s] := sn_of_asc (l := [s]) (by simp [Asc])
    obtain ⟨_, h1, h2⟩ := step_leaf h hD
    have hno : ∀ q ∈ tops (done S) p, s ∉ leaves q := by
      intro q m
      have : (kfl kl q, vfm ev q) ∈ D := hD.mem_iff.mpr (List.mem_map.mpr ⟨q, m, rfl⟩)
      obtain ⟨r, m1, e, hs⟩ := h1 _ this
      intro hq
      have e1 := hk _ _ (congrArg Prod.fst e)
      exact hs (by rw [← mem_lot, ← e1, mem_lot]; exact hq)
    refine ⟨s, rfl, es, ?_, ?_⟩
    · rw [List.filter_eq_nil_iff]
      intro k m
      obtain ⟨q, m1, rfl⟩ := hd k (mem_srt.mp m)
      obtain ⟨t, e⟩ := lot_head (sub_nodup (tops_sub m1).1 h.nd)
      rw [e, es]
      simp only [List.headD_cons, List.mem_singleton, decide_eq_true_eq]
      intro e2
      exact hno q m1 (e2 ▸ lmin_mem q)
    · rw [dput_new (fun m => ?_)]
      · exact h2
      · obtain ⟨kv, m, e⟩ := List.mem_map.mp m
        obtain ⟨q, m1, e', hs⟩ := h1 kv m
        rw [e'] at e
        have e1 := hk _ _ e
        exact hs (by rw [← mem_lot, e1, es]; simp)
  | node a b =>
    right
    obtain ⟨R, p1, p2, p3⟩ := step_node h hD
    have ab : (leaves (.node a b)).Nodup := sub_nodup h.sub h.nd
    obtain ⟨na, nb, nab⟩ := List.nodup_append.mp (show (leaves a ++ leaves b).Nodup from ab)
    have ne : lmin a ≠ lmin b := fun e => nab _ (lmin_mem a) _ (e ▸ lmin_mem b) rfl
    have ina : ∀ y ∈ leaves a, y ∈ leaves (.node a b) := fun y m => List.mem_append_left _ m
    have inb : ∀ y ∈ leaves b, y ∈ leaves (.node a b) := fun y m => List.mem_append_right _ m
    obtain ⟨ta, ha⟩ := lot_head na
    obtain ⟨tb, hb⟩ := lot_head nb
    have fm : ∀ k, k ∈ (srt ks).filter (fun k => decide (k.headD 0 ∈ lot (.node a b))) ↔ k = lot a ∨ k = lot b := by
      intro k
      rw [List.mem_filter, mem_srt]
      simp only [decide_eq_true_eq, mem_lot]
      constructor
      · rintro ⟨h1, h2⟩
        have : kl k ∈ D.map (·.1) := by rw [← k1]; exact List.mem_map.mpr ⟨k, h1, rfl⟩
        obtain ⟨kv, m, e⟩ := List.mem_map.mp this
        rcases List.mem_cons.mp (p1.mem_iff.mp m) with rfl | m
        · exact .inl (hk _ _ e).symm
        · rcases List.mem_cons.mp m with rfl | m
          · exact .inr (hk _ _ e).symm
          · obtain ⟨q, rfl, hq⟩ := p2 kv m
            have e1 := hk _ _ e
            obtain ⟨r, m1, rfl⟩ := hd k h1
            obtain ⟨t, e2⟩ := lot_head (sub_nodup (tops_sub m1).1 h.nd)
            rw [e2] at h2
            have h3 : lmin r ∈ leaves q := by rw [← mem_lot, e1, mem_lot]; exact lmin_mem r
            exact absurd h2 (hq _ h3)
      · rintro (rfl | rfl)
        · have : kl (lot a) ∈ ks.map kl := by rw [k1]; exact List.mem_map.mpr ⟨_, p1.mem_iff.mpr (List.mem_cons_self ..), rfl⟩
          obtain ⟨k, m, e⟩ := List.mem_map.mp this
          rw [hk _ _ e] at m
          exact ⟨m, by rw [ha]; exact ina _ (lmin_mem a)⟩
        · have : kl (lot b) ∈ ks.map kl := by rw [k1]; exact List.mem_map.mpr ⟨_, p1.mem_iff.mpr (List.mem_cons_of_mem _ (List.mem_cons_self ..)), rfl⟩
          obtain ⟨k, m, e⟩ := List.mem_map.mp this
          rw [hk _ _ e] at m
          exact ⟨m, by rw [hb]; exact inb _ (lmin_mem b)⟩
    have fs := strict.filter (fun k => decide (k.headD 0 ∈ lot (.node a b)))
    have nR : kl (lot (.node a b)) ∉ R.map (·.1) := by
      intro m
      obtain ⟨kv, m, e⟩ := List.mem_map.mp m
      obtain ⟨q, rfl, hq⟩ := p2 kv m
      have e1 := hk _ _ e
      have : lmin q ∈ leaves (.node a b) := by rw [← mem_lot, ← e1, mem_lot]; exact lmin_mem q
      exact hq _ (lmin_mem q) this
    by_cases c : lmin a < lmin b
    · have q1 := ddrop_perm p1 nk
      have n0 := (p1.map (·.1)).nodup_iff.mp nk
      have nq : ((ddrop D (kl (lot a))).map (·.1)).Nodup := (q1.map (·.1)).nodup_iff.mpr (List.nodup_cons.mp n0).2
      have q2 := ddrop_perm q1 nq
      refine ⟨lot a, lot b, ev (formed a), ev (formed b), strict_ext fs (by rw [ha, hb]; simp [lx_heads c]) (fun k => by rw [fm]; simp), dget_mem nk (p1.mem_iff.mpr (List.mem_cons_self ..)), dget_mem nk (p1.mem_iff.mpr (List.mem_cons_of_mem _ (List.mem_cons_self ..))), ?_, ?_⟩
      · exact dget_some.mpr (List.mem_map.mpr ⟨_, q1.mem_iff.mpr (List.mem_cons_self ..), rfl⟩)
      · rw [dput_new (fun m => nR ((q2.map (·.1)).mem_iff.mp m))]
        have e2 : vfm ev (.node a b) = pr (ev (formed a)) (ev (formed b)) := by show ev (formed (.node a b)) = _; rw [formed, if_pos c, hp]
        rw [e2] at p3
        refine (q2.append_right _).trans (List.Perm.trans ?_ p3)
        exact List.perm_append_comm
    · have c' : lmin b < lmin a := by omega
      have p1' : D.Perm ((kl (lot b), ev (formed b)) :: (kl (lot a), ev (formed a)) :: R) := p1.trans (List.Perm.swap _ _ _)
      have q1 := ddrop_perm p1' nk
      have n0 := (p1'.map (·.1)).nodup_iff.mp nk
      have nq : ((ddrop D (kl (lot b))).map (·.1)).Nodup := (q1.map (·.1)).nodup_iff.mpr (List.nodup_cons.mp n0).2
      have q2 := ddrop_perm q1 nq
      refine ⟨lot b, lot a, ev (formed b), ev (formed a), strict_ext fs (by rw [ha, hb]; simp [lx_heads c']) (fun k => by rw [fm]; simp [Or.comm]), dget_mem nk (p1'.mem_iff.mpr (List.mem_cons_self ..)), dget_mem nk (p1'.mem_iff.mpr (List.mem_cons_of_mem _ (List.mem_cons_self ..))), ?_, ?_⟩
      · exact dget_some.mpr (List.mem_map.mpr ⟨_, q1.mem_iff.mpr (List.mem_cons_self ..), rfl⟩)
      · rw [dput_new (fun m => nR ((q2.map (·.1)).mem_iff.mp m))]
        have e2 : vfm ev (.node a b) = pr (ev (formed b)) (ev (formed a)) := by show ev (formed (.node a b)) = _; rw [formed, if_neg c, hp]
        rw [e2] at p3
        refine (q2.append_right _).trans (List.Perm.trans ?_ p3)
        exact List.perm_append_comm
end
/-- nothing is at the top at first, and all in the end -/
theorem dic_nil {κ β : Type} {kf : Pl → κ} {vf : Pl → β} {p : Pl} : dic kf vf (done []) p = [] := by unfold dic; rw [tops_nil]; rfl
theorem dic_all {κ β : Type} {kf : Pl → κ} {vf : Pl → β} {p : Pl} {S : List (List Nat)} (h : lot p ∈ S) {D : List (κ × β)} (hD : D.Perm (dic kf vf (done S) p)) : D = [(kf p, vf p)] := by
  unfold dic at hD
  rw [tops_all h] at hD
  exact List.perm_singleton.mp hD
end LM


namespace LM

theorem nodup_len_le : ∀ {a b : List Nat}, a.Nodup → (∀ x ∈ a, x ∈ b) → a.length ≤ b.length
  | [], _, _, _ => Nat.zero_le _
  | x :: a, b, n, h => by
    obtain ⟨n1, n2⟩ := List.nodup_cons.mp n
    have hx := h x (List.mem_cons_self ..)
    have := nodup_len_le (a := a) (b := b.erase x) n2 fun y m => (List.mem_erase_of_ne (fun (e : y = x) => n1 (e ▸ m))).mpr (h y (List.mem_cons_of_mem _ m))
    rw [List.length_erase_of_mem hx] at this
    have := List.length_pos_of_mem hx
    rw [List.length_cons]
    omega
theorem nodup_len_eq {a b : List Nat} (n : a.Nodup) (h : ∀ x ∈ a, x ∈ b) (hl : b.length ≤ a.length) : ∀ x ∈ b, x ∈ a := by
  intro x hx
  by_cases c : x ∈ a
  · exact c
  · have := nodup_len_le (a := x :: a) (b := b) (List.nodup_cons.mpr ⟨c, n⟩) fun y m => by
      rcases List.mem_cons.mp m with rfl | m
      · exact hx
      · exact h y m
    rw [List.length_cons] at this
    omega

/-! ### crossing -/
def shared (a b : List Nat) : Nat := (a.filter fun s => decide (s ∈ b)).length
def crossB (a b : List Nat) : Bool := decide (0 < shared a b) && decide (shared a b < min a.length b.length)
def Ok (a b : List Nat) : Prop := (∀ x ∈ a, x ∉ b) ∨ (∀ x ∈ a, x ∈ b) ∨ (∀ x ∈ b, x ∈ a)
theorem shared_comm {a b : List Nat} (ha : a.Nodup) (hb : b.Nodup) : shared a b = shared b a := by
  have p : (a.filter fun s => decide (s ∈ b)).Perm (b.filter fun s => decide (s ∈ a)) :=
    (List.perm_ext_iff_of_nodup (ha.filter _) (hb.filter _)).mpr fun x => by simp [List.mem_filter, And.comm]
  exact p.length_eq
theorem shared_le (a b : List Nat) : shared a b ≤ a.length := List.length_filter_le _ _
theorem shared_zero {a b : List Nat} : shared a b = 0 ↔ ∀ x ∈ a, x ∉ b := by
  unfold shared
  rw [List.length_eq_zero_iff, List.filter_eq_nil_iff]
  simp
theorem shared_all {a b : List Nat} : shared a b = a.length ↔ ∀ x ∈ a, x ∈ b := by
  unfold shared
  rw [List.length_filter_eq_length_iff]
  simp
theorem cross_comm {a b : List Nat} (ha : a.Nodup) (hb : b.Nodup) : crossB a b = crossB b a := by
  unfold crossB
  rw [shared_comm ha hb, Nat.min_comm]
theorem cross_ok {a b : List Nat} (ha : a.Nodup) (hb : b.Nodup) : crossB a b = false ↔ Ok a b := by
  unfold crossB Ok
  have h1 := shared_le a b
  have h2 := shared_le b a
  have e := shared_comm ha hb
  rw [← shared_zero, ← shared_all, ← shared_all, ← e]
  simp only [Bool.and_eq_false_iff, decide_eq_false_iff_not]
  omega
theorem Ok.symm {a b : List Nat} (h : Ok a b) : Ok b a := by
  rcases h with h | h | h
  · exact .inl fun x hx hy => h x hy hx
  · exact .inr (.inr h)
  · exact .inr (.inl h)

/-! ### lots -/
structure IsLot (n : Nat) (l : List Nat) : Prop where
  asc : Asc l
  ne : l ≠ []
  lt : ∀ x ∈ l, x < n
theorem exists_max {α : Type} (f : α → Nat) : ∀ {l : List α}, l ≠ [] → ∃ a ∈ l, ∀ b ∈ l, f b ≤ f a
  | [], h => absurd rfl h
  | [a], _ => ⟨a, List.mem_cons_self .., fun b m => by simp at m; subst m; exact Nat.le_refl _⟩
  | a :: c :: l, _ => by
    obtain ⟨d, m, h⟩ := exists_max f (l := c :: l) (by simp)
    by_cases e : f d ≤ f a
    · refine ⟨a, List.mem_cons_self .., fun b hb => ?_⟩
      rcases List.mem_cons.mp hb with rfl | hb
      · exact Nat.le_refl _
      · exact Nat.le_trans (h b hb) e
    · refine ⟨d, List.mem_cons_of_mem _ m, fun b hb => ?_⟩
      rcases List.mem_cons.mp hb with rfl | hb
      · omega
      · exact h b hb
/-- a family of lots to which none can be put -/
structure Full (n : Nat) (F : List (List Nat)) : Prop where
  lot : ∀ l ∈ F, IsLot n l
  nd : F.Nodup
  ok : ∀ a ∈ F, ∀ b ∈ F, Ok a b
  max : ∀ l, IsLot n l → (∀ m ∈ F, Ok l m) → l ∈ F
section
variable {n : Nat} {F : List (List Nat)}
theorem Full.build (h : Full n F) : ∀ (k : Nat) (X : List Nat), X ∈ F → X.length ≤ k → ∃ q, (leaves q).Nodup ∧ LM.lot q = X ∧ ∀ Y, (Y ∈ F ∧ ∀ y ∈ Y, y ∈ X) ↔ ∃ r ∈ subs q, LM.lot r = Y := by
  intro k
  induction k with
  | zero =>
    intro X hX hk
    exact absurd (List.eq_nil_of_length_eq_zero (Nat.le_zero.mp hk)) (h.lot X hX).ne
  | succ k ih =>
    intro X hX hk
    have LX := h.lot X hX
    match X, LX, hX, hk with
    | [], LX, _, _ => exact absurd rfl LX.ne
    | [s], LX, hX, _ =>
      have es : LM.lot (.leaf s) = [s] := sn_of_asc (l := [s]) (by simp [Asc])
      refine ⟨.leaf s, by simp [leaves], es, fun Y => ⟨fun ⟨h1, h2⟩ => ⟨.leaf s, self_sub _, ?_⟩, ?_⟩⟩
      · have LY := h.lot Y h1
        rw [es]
        refine asc_ext (by simp [Asc]) LY.asc fun x => ⟨fun m => ?_, fun m => h2 x m⟩
        obtain ⟨y, hy⟩ := List.exists_mem_of_ne_nil Y LY.ne
        have e1 : y = s := by simpa using h2 y hy
        have e2 : x = s := by simpa using m
        rw [e2, ← e1]
        exact hy
      · rintro ⟨r, hr, rfl⟩
        simp [subs] at hr
        subst hr
        rw [es]
        exact ⟨hX, fun _ m => m⟩
    | s :: t :: X', LX, hX, hk =>
      generalize hXe : s :: t :: X' = X at *
      have single : [s] ∈ F := by
        refine h.max [s] ⟨by simp [Asc], by simp, fun x m => ?_⟩ fun m hm => ?_
        · have : x = s := by simpa using m
          subst this
          exact LX.lt x (by rw [← hXe]; exact List.mem_cons_self ..)
        · by_cases c : s ∈ m
          · exact .inr (.inl fun x hx => by have : x = s := by simpa using hx
                                            rw [this]; exact c)
          · exact .inl fun x hx => by have : x = s := by simpa using hx
                                      rw [this]; exact c
      have cne : (F.filter fun A => decide (A ≠ X ∧ ∀ y ∈ A, y ∈ X)) ≠ [] := by
        intro e
        have := List.filter_eq_nil_iff.mp e [s] single
        simp only [decide_eq_true_eq, not_and] at this
        refine this (fun e => ?_) fun y m => ?_
        · rw [← hXe] at e
          cases e
        · have : y = s := by simpa using m
          rw [this, ← hXe]
          exact List.mem_cons_self ..
      obtain ⟨A, mA, hA⟩ := exists_max (f := List.length) cne
      obtain ⟨fA, hA2⟩ := List.mem_filter.mp mA
      obtain ⟨neA, subA⟩ : A ≠ X ∧ ∀ y ∈ A, y ∈ X := by simpa using hA2
      have LA := h.lot A fA
      have key : ∀ M ∈ F, (∀ y ∈ M, y ∈ X) → M ≠ X → (∀ y ∈ M, y ∈ A) ∨ (∀ y ∈ M, y ∉ A) := by
        intro M hM hs hne
        rcases h.ok M hM A fA with c | c | c
        · exact .inr c
        · exact .inl c
        · have := hA M (List.mem_filter.mpr ⟨hM, by simpa using ⟨hne, hs⟩⟩)
          exact .inl (nodup_len_eq LA.asc.nodup c this)
      have outside : ∃ x ∈ X, x ∉ A := by
        refine Classical.byContradiction fun e => neA (asc_ext LA.asc LX.asc fun x => ⟨subA x, fun hx => ?_⟩)
        exact Classical.byContradiction fun e2 => e ⟨x, hx, e2⟩
      have mB : ∀ x, x ∈ X.filter (fun x => decide (x ∉ A)) ↔ x ∈ X ∧ x ∉ A := fun x => by simp [List.mem_filter]
      have LB : IsLot n (X.filter fun x => decide (x ∉ A)) := by
        refine ⟨asc_filter _ LX.asc, fun e => ?_, fun x m => LX.lt x ((mB x).mp m).1⟩
        obtain ⟨x, hx, hxa⟩ := outside
        have := (mB x).mpr ⟨hx, hxa⟩
        rw [e] at this
        cases this
      generalize hBe : X.filter (fun x => decide (x ∉ A)) = B at mB LB
      have fB : B ∈ F := by
        refine h.max B LB fun M hM => ?_
        rcases h.ok M hM X hX with c | c | c
        · exact .inl fun x hx hm => c x hm ((mB x).mp hx).1
        · by_cases e : M = X
          · exact .inr (.inl fun x hx => by rw [e]; exact ((mB x).mp hx).1)
          · rcases key M hM c e with d | d
            · exact .inl fun x hx hm => ((mB x).mp hx).2 (d x hm)
            · exact .inr (.inr fun x hm => (mB x).mpr ⟨c x hm, d x hm⟩)
        · exact .inr (.inl fun x hx => c x ((mB x).mp hx).1)
      have subB : ∀ y ∈ B, y ∈ X := fun y m => ((mB y).mp m).1
      have lA : A.length ≤ k := by
        have h1 : A.length < X.length := by
          refine Nat.lt_of_not_le fun e => ?_
          obtain ⟨x, hx, hxa⟩ := outside
          exact hxa (nodup_len_eq LA.asc.nodup subA e x hx)
        omega
      have lB : B.length ≤ k := by
        have h1 : B.length < X.length := by
          refine Nat.lt_of_not_le fun e => ?_
          obtain ⟨y, hy⟩ := List.exists_mem_of_ne_nil A LA.ne
          exact ((mB y).mp (nodup_len_eq LB.asc.nodup subB e y (subA y hy))).2 hy
        omega
      obtain ⟨qa, na, ea, ha⟩ := ih A fA lA
      obtain ⟨qb, nb, eb, hb⟩ := ih B fB lB
      have la : ∀ x, x ∈ leaves qa ↔ x ∈ A := fun x => by rw [← mem_lot, ea]
      have lb : ∀ x, x ∈ leaves qb ↔ x ∈ B := fun x => by rw [← mem_lot, eb]
      have nq : (leaves (.node qa qb)).Nodup := List.nodup_append.mpr ⟨na, nb, fun x hx y hy e => by
        subst e
        exact ((mB x).mp ((lb x).mp hy)).2 ((la x).mp hx)⟩
      have eq : LM.lot (.node qa qb) = X := asc_ext (lot_asc nq) LX.asc fun x => by
        rw [mem_lot]
        show x ∈ leaves qa ++ leaves qb ↔ _
        rw [List.mem_append, la, lb, mB]
        constructor
        · rintro (h | h)
          · exact subA x h
          · exact h.1
        · intro hx
          by_cases c : x ∈ A
          · exact .inl c
          · exact .inr ⟨hx, c⟩
      refine ⟨.node qa qb, nq, eq, fun Y => ⟨fun ⟨h1, h2⟩ => ?_, ?_⟩⟩
      · by_cases e : Y = X
        · exact ⟨_, self_sub _, by rw [eq, e]⟩
        · rcases key Y h1 h2 e with d | d
          · obtain ⟨r, m, er⟩ := (ha Y).mp ⟨h1, d⟩
            exact ⟨r, List.mem_cons_of_mem _ (List.mem_append_left _ m), er⟩
          · obtain ⟨r, m, er⟩ := (hb Y).mp ⟨h1, fun y m => (mB y).mpr ⟨h2 y m, d y m⟩⟩
            exact ⟨r, List.mem_cons_of_mem _ (List.mem_append_right _ m), er⟩
      · rintro ⟨r, hr, rfl⟩
        simp only [subs, List.mem_cons, List.mem_append] at hr
        rcases hr with rfl | hr | hr
        · rw [eq]
          exact ⟨hX, fun _ m => m⟩
        · obtain ⟨h1, h2⟩ := (ha _).mpr ⟨r, hr, rfl⟩
          exact ⟨h1, fun y m => subA y (h2 y m)⟩
        · obtain ⟨h1, h2⟩ := (hb _).mpr ⟨r, hr, rfl⟩
          exact ⟨h1, fun y m => subB y (h2 y m)⟩
theorem Full.tree (h : Full n F) (hn : 1 ≤ n) : ∃ p, (leaves p).Nodup ∧ (leaves p).Perm (List.range n) ∧ F.Perm ((subs p).map LM.lot) := by
  have L : IsLot n (List.range n) := ⟨List.pairwise_lt_range, by simp; omega, fun x m => List.mem_range.mp m⟩
  have fX : List.range n ∈ F := h.max _ L fun M hM => .inr (.inr fun x hx => List.mem_range.mpr ((h.lot M hM).lt x hx))
  obtain ⟨q, nq, eq, hq⟩ := h.build n _ fX (by simp)
  refine ⟨q, nq, ?_, ?_⟩
  · have := sn_perm (leaves q)
    rw [show sn (leaves q) = List.range n from eq] at this
    exact this.symm
  · refine (List.perm_ext_iff_of_nodup h.nd (lots_nodup nq)).mpr fun Y => ?_
    rw [List.mem_map, ← hq Y]
    exact ⟨fun m => ⟨m, fun y hy => List.mem_range.mpr ((h.lot Y m).lt y hy)⟩, fun m => m.1⟩
end

/-! ### all lots -/
def allL : Nat → List (List Nat)
  | 0 => [[]]
  | k + 1 => allL k ++ (allL k).map (· ++ [k])
theorem mem_allL : ∀ {n : Nat} {l : List Nat}, l ∈ allL n ↔ Asc l ∧ ∀ x ∈ l, x < n
  | 0, l => by
    simp only [allL, List.mem_singleton]
    constructor
    · rintro rfl
      simp [Asc]
    · rintro ⟨_, h⟩
      cases l with
      | nil => rfl
      | cons a l => exact absurd (h a (List.mem_cons_self ..)) (by omega)
  | k + 1, l => by
    simp only [allL, List.mem_append, List.mem_map]
    constructor
    · rintro (h | ⟨m, h, rfl⟩)
      · obtain ⟨h1, h2⟩ := mem_allL.mp h
        exact ⟨h1, fun x hx => by have := h2 x hx; omega⟩
      · obtain ⟨h1, h2⟩ := mem_allL.mp h
        refine ⟨List.pairwise_append.mpr ⟨h1, by simp, fun a ha b hb => ?_⟩, fun x hx => ?_⟩
        · have : b = k := by simpa using hb
          have := h2 a ha
          omega
        · rcases List.mem_append.mp hx with hx | hx
          · have := h2 x hx; omega
          · have : x = k := by simpa using hx
            omega
    · rintro ⟨h1, h2⟩
      by_cases c : k ∈ l
      · right
        have e : l = l.filter (fun x => decide (x < k)) ++ [k] := by
          refine asc_ext h1 (List.pairwise_append.mpr ⟨asc_filter _ h1, by simp, fun a ha b hb => ?_⟩) fun x => ?_
          · have : b = k := by simpa using hb
            have := (List.mem_filter.mp ha).2
            simp at this
            omega
          · simp only [List.mem_append, List.mem_filter, decide_eq_true_eq, List.mem_singleton]
            constructor
            · intro hx
              have := h2 x hx
              by_cases d : x = k
              · exact .inr d
              · exact .inl ⟨hx, by omega⟩
            · rintro (h | rfl)
              · exact h.1
              · exact c
        exact ⟨_, mem_allL.mpr ⟨asc_filter _ h1, fun x hx => by simpa using (List.mem_filter.mp hx).2⟩, e.symm⟩
      · left
        refine mem_allL.mpr ⟨h1, fun x hx => ?_⟩
        have := h2 x hx
        have : x ≠ k := fun e => c (e ▸ hx)
        omega
theorem allL_nodup : ∀ n, (allL n).Nodup
  | 0 => by simp [allL]
  | k + 1 => by
    refine List.nodup_append.mpr ⟨allL_nodup k, ?_, fun a ha b hb e => ?_⟩
    · exact List.pairwise_map.mpr ((allL_nodup k).imp fun h e => h (List.append_cancel_right e))
    · subst e
      obtain ⟨m, _, e⟩ := List.mem_map.mp hb
      have := (mem_allL.mp ha).2 k (by rw [← e]; simp)
      omega
theorem allL_head : ∀ n, ∃ t, allL n = [] :: t
  | 0 => ⟨[], rfl⟩
  | k + 1 => by
    obtain ⟨t, e⟩ := allL_head k
    exact ⟨t ++ (allL k).map (· ++ [k]), by rw [allL, e]; rfl⟩
theorem allL_len : ∀ n, (allL n).length = 2 ^ n
  | 0 => rfl
  | k + 1 => by
    rw [allL, List.length_append, List.length_map, allL_len k, Nat.pow_succ]
    omega
theorem mem_tail {n : Nat} {l : List Nat} : l ∈ (allL n).drop 1 ↔ IsLot n l := by
  obtain ⟨t, e⟩ := allL_head n
  have nd := allL_nodup n
  rw [e] at nd
  obtain ⟨n1, n2⟩ := List.nodup_cons.mp nd
  rw [e]
  show l ∈ t ↔ _
  constructor
  · intro m
    have : l ∈ allL n := by rw [e]; exact List.mem_cons_of_mem _ m
    obtain ⟨h1, h2⟩ := mem_allL.mp this
    exact ⟨h1, fun z => n1 (z ▸ m), h2⟩
  · intro h
    have := mem_allL.mpr ⟨h.asc, h.lt⟩
    rw [e] at this
    rcases List.mem_cons.mp this with z | m
    · exact absurd z h.ne
    · exact m

/-! ### grown one by one -/
def gstep (found : List (List Nat)) (l : List Nat) : List (List Nat) := if (found.any fun one => crossB l one) = true then found else found ++ [l]
theorem grown_prefix : ∀ (rest found : List (List Nat)), ∃ t, rest.foldl gstep found = found ++ t
  | [], found => ⟨[], by simp⟩
  | l :: rest, found => by
    obtain ⟨t, e⟩ := grown_prefix rest (gstep found l)
    rw [List.foldl_cons, e]
    unfold gstep
    split
    · exact ⟨t, rfl⟩
    · exact ⟨l :: t, by simp⟩
structure Gr (n : Nat) (done found : List (List Nat)) : Prop where
  sub : found.Sublist done
  ok : found.Pairwise Ok
  max : ∀ l ∈ done, l ∈ found ∨ ∃ m ∈ found, ¬ Ok l m
theorem gstep_gr {n : Nat} {done found : List (List Nat)} {l : List Nat} (hd : ∀ l ∈ done, IsLot n l) (hl : IsLot n l) (h : Gr n done found) : Gr n (done ++ [l]) (gstep found l) := by
  have nl := hl.asc.nodup
  have nf : ∀ m ∈ found, m.Nodup := fun m hm => (hd m (h.sub.subset hm)).asc.nodup
  unfold gstep
  by_cases c : (found.any fun one => crossB l one) = true
  · rw [if_pos c]
    obtain ⟨m, hm, hc⟩ := List.any_eq_true.mp c
    refine ⟨h.sub.trans (List.sublist_append_left _ _), h.ok, fun x hx => ?_⟩
    rcases List.mem_append.mp hx with hx | hx
    · exact h.max x hx
    · have : x = l := by simpa using hx
      subst this
      exact .inr ⟨m, hm, fun o => by rw [(cross_ok nl (nf m hm)).mpr o] at hc; cases hc⟩
  · rw [if_neg c]
    have all : ∀ m ∈ found, Ok l m := fun m hm => (cross_ok nl (nf m hm)).mp (by
      cases e : crossB l m with
      | false => rfl
      | true => exact absurd (List.any_eq_true.mpr ⟨m, hm, e⟩) c)
    refine ⟨h.sub.append (List.Sublist.refl _), List.pairwise_append.mpr ⟨h.ok, by simp, fun a ha b hb => ?_⟩, fun x hx => ?_⟩
    · have : b = l := by simpa using hb
      subst this
      exact (all a ha).symm
    · rcases List.mem_append.mp hx with hx | hx
      · rcases h.max x hx with d | ⟨m, hm, d⟩
        · exact .inl (List.mem_append_left _ d)
        · exact .inr ⟨m, List.mem_append_left _ hm, d⟩
      · exact .inl (List.mem_append_right _ hx)
theorem grown_gr {n : Nat} : ∀ (rest done found : List (List Nat)), (∀ l ∈ done ++ rest, IsLot n l) → Gr n done found → Gr n (done ++ rest) (rest.foldl gstep found)
  | [], done, found, _, h => by rw [List.append_nil]; exact h
  | l :: rest, done, found, hl, h => by
    have e : done ++ l :: rest = (done ++ [l]) ++ rest := by simp
    rw [e, List.foldl_cons]
    refine grown_gr rest (done ++ [l]) (gstep found l) (by rw [← e]; exact hl) (gstep_gr (fun x hx => hl x (List.mem_append_left _ hx)) (hl l (List.mem_append_right _ (List.mem_cons_self ..))) h)
theorem pairwise_ok {F : List (List Nat)} (h : F.Pairwise Ok) : ∀ a ∈ F, ∀ b ∈ F, Ok a b := by
  induction F with
  | nil => intro a ha; cases ha
  | cons x F ih =>
    obtain ⟨h1, h2⟩ := List.pairwise_cons.mp h
    intro a ha b hb
    rcases List.mem_cons.mp ha with e1 | ha1 <;> rcases List.mem_cons.mp hb with e2 | hb1
    · rw [e1, e2]
      exact .inr (.inl fun _ m => m)
    · rw [e1]
      exact h1 b hb1
    · rw [e2]
      exact (h1 a ha1).symm
    · exact ih h2 a ha1 b hb1
theorem grown_full {n : Nat} {order : List (List Nat)} (ho : order.Perm ((allL n).drop 1)) : Full n (order.foldl gstep []) := by
  have hl : ∀ l, l ∈ order ↔ IsLot n l := fun l => (ho.mem_iff).trans mem_tail
  have g := grown_gr order [] [] (by simpa using fun l m => (hl l).mp m) ⟨.refl _, .nil, fun _ m => nomatch m⟩
  rw [List.nil_append] at g
  have ok := pairwise_ok g.ok
  refine ⟨fun l m => (hl l).mp (g.sub.subset m), g.sub.nodup (ho.nodup_iff.mpr ((allL_nodup n).sublist (List.drop_sublist _ _))), ok, fun l L h => ?_⟩
  rcases g.max l ((hl l).mpr L) with d | ⟨m, hm, d⟩
  · exact d
  · exact absurd (h m hm) d
theorem grown_tree {n : Nat} (hn : 1 ≤ n) {order : List (List Nat)} (ho : order.Perm ((allL n).drop 1)) :
    ∃ p, (leaves p).Nodup ∧ (leaves p).Perm (List.range n) ∧ (order.foldl gstep []).Perm ((subs p).map lot) ∧ (order.foldl gstep []).length + 1 = 2 * n := by
  obtain ⟨p, h1, h2, h3⟩ := (grown_full ho).tree hn
  refine ⟨p, h1, h2, h3, ?_⟩
  rw [h3.length_eq, List.length_map, subs_len, h2.length_eq, List.length_range]
end LM


namespace LM
def mask (l : List Nat) : Nat := (l.map fun s => 2 ^ s).sum
theorem mask_snoc (l : List Nat) (s : Nat) : mask (l ++ [s]) = mask l + 2 ^ s := by simp [mask]
theorem mask_bits : ∀ (n : Nat) (l : List Nat), l.length = n → Asc l → (∀ i, (mask l).testBit i = decide (i ∈ l)) ∧ ∀ k, (∀ x ∈ l, x < k) → mask l < 2 ^ k
  | 0, l, e, _ => by
    have := List.eq_nil_of_length_eq_zero e
    subst this
    exact ⟨fun i => by simp [mask], fun k _ => by show 0 < 2 ^ k; exact Nat.two_pow_pos k⟩
  | n + 1, l, e, h => by
    have hne : l ≠ [] := by intro z; rw [z] at e; cases e
    obtain ⟨m, s, rfl⟩ : ∃ m s, l = m ++ [s] := ⟨l.dropLast, l.getLast hne, (List.dropLast_concat_getLast hne).symm⟩
    obtain ⟨h1, _, h3⟩ := List.pairwise_append.mp h
    obtain ⟨b, lt⟩ := mask_bits n m (by simpa using e) h1
    have hs := lt s fun x hx => h3 x hx s (by simp)
    refine ⟨fun i => ?_, fun k hk => ?_⟩
    · rw [mask_snoc, Nat.add_comm, show 2 ^ s = 2 ^ s * 1 by omega, Nat.two_pow_add_eq_or_of_lt hs, Nat.testBit_or, b i, Nat.mul_one, Nat.testBit_two_pow]
      by_cases c : i = s
      · subst c; simp
      · have c' : ¬ s = i := fun z => c z.symm
        simp [c, c']
    · rw [mask_snoc]
      have : s < k := hk s (by simp)
      have : 2 ^ (s + 1) ≤ 2 ^ k := Nat.pow_le_pow_right (by omega) this
      rw [Nat.pow_succ] at this
      omega
theorem mask_bit {l : List Nat} (h : Asc l) (i : Nat) : (mask l).testBit i = decide (i ∈ l) := (mask_bits _ l rfl h).1 i
theorem mask_eq {a : Nat} {l : List Nat} (h : Asc l) (e : ∀ i, a.testBit i = decide (i ∈ l)) : a = mask l := Nat.eq_of_testBit_eq fun i => by rw [e, mask_bit h]
def crossM (a b : List Nat) : Bool := decide (mask a &&& mask b ≠ 0) && (decide (mask a &&& mask b ≠ mask a) && decide (mask a &&& mask b ≠ mask b))
theorem crossM_eq {a b : List Nat} (ha : Asc a) (hb : Asc b) : crossM a b = crossB a b := by
  have bits : ∀ i, (mask a &&& mask b).testBit i = (decide (i ∈ a) && decide (i ∈ b)) := fun i => by rw [Nat.testBit_and, mask_bit ha, mask_bit hb]
  have z : mask a &&& mask b = 0 ↔ ∀ x ∈ a, x ∉ b := by
    constructor
    · intro e x hx hy
      have := bits x
      rw [e] at this
      simp [hx, hy] at this
    · intro h
      refine Nat.eq_of_testBit_eq fun i => ?_
      rw [bits]
      by_cases c : i ∈ a
      · simp [c, h i c]
      · simp [c]
  have o : mask a &&& mask b = mask a ↔ ∀ x ∈ a, x ∈ b := by
    constructor
    · intro e x hx
      have := bits x
      rw [e, mask_bit ha] at this
      simpa [hx] using this
    · intro h
      refine Nat.eq_of_testBit_eq fun i => ?_
      rw [bits, mask_bit ha]
      by_cases c : i ∈ a
      · simp [c, h i c]
      · simp [c]
  have o' : mask a &&& mask b = mask b ↔ ∀ x ∈ b, x ∈ a := by
    constructor
    · intro e x hx
      have := bits x
      rw [e, mask_bit hb] at this
      simpa [hx] using this
    · intro h
      refine Nat.eq_of_testBit_eq fun i => ?_
      rw [bits, mask_bit hb]
      by_cases c : i ∈ b
      · simp [c, h i c]
      · simp [c]
  have k := cross_ok ha.nodup hb.nodup
  unfold Ok at k
  rw [← z, ← o, ← o'] at k
  unfold crossM
  cases e : crossB a b with
  | false =>
    rcases k.mp e with h | h | h
    · simp [h]
    · rw [h]; simp
    · rw [h]; simp
  | true =>
    have n : ¬ (mask a &&& mask b = 0 ∨ mask a &&& mask b = mask a ∨ mask a &&& mask b = mask b) := fun h => by
      rw [k.mpr h] at e; cases e
    simp only [not_or] at n
    simp [n.1, n.2.1, n.2.2]
end LM


/-! A layer over the hand layer: what a def does, as a function of plain data. -/
namespace MM
open PySem PySem.Spec PyProof.Rows L2

/-! ### heaps -/
def Ex (H H' : Hp) : Prop := ∀ a o, H a = some o → H' a = some o
theorem Ex.refl (H : Hp) : Ex H H := fun _ _ h => h
theorem Ex.trans {H H1 H2 : Hp} (a : Ex H H1) (b : Ex H1 H2) : Ex H H2 := fun x o h => b x o (a x o h)
theorem Ex.new {H : Hp} {p : Addr} {o : HO} (h : H p = none) : Ex H (upd H p o) := fun a u e => by
  rw [upd_ne (ne_of_none e h)]
  exact e
theorem Ex.none {H H' : Hp} (e : Ex H H') {p : Addr} (h : H' p = none) : H p = none := by
  cases q : H p with
  | none => rfl
  | some o =>
    rw [e p o q] at h
    cases h

/-! ### plain data in a heap -/
mutual
inductive Da (F : Hp) : V → PyData → Prop
  | non : Da F .non .none
  | bl (b : Bool) : Da F (.bl b) (.bool b)
  | int (i : Int) : Da F (.int i) (.int i)
  | str (x : Str) : Da F (.str x) (.str x)
  | lst {a : Addr} {xs : List V} {ds : List PyData} : F a = some (.lst xs) → DaAll F xs ds → Da F (.ref a) (.list ds)
  | tup {a : Addr} {xs : List V} {ds : List PyData} : F a = some (.tup xs) → DaAll F xs ds → Da F (.ref a) (.tuple ds)
inductive DaAll (F : Hp) : List V → List PyData → Prop
  | nil : DaAll F [] []
  | cons {v : V} {vs : List V} {d : PyData} {ds : List PyData} : Da F v d → DaAll F vs ds → DaAll F (v :: vs) (d :: ds)
end
mutual
theorem Da.mono {F F' : Hp} (e : Ex F F') : ∀ {d : PyData} {v : V}, Da F v d → Da F' v d
  | .none, _, .non => .non
  | .bool b, _, .bl _ => .bl b
  | .int i, _, .int _ => .int i
  | .str x, _, .str _ => .str x
  | .list ds, _, .lst h a => .lst (e _ _ h) (DaAll.mono e a)
  | .tuple ds, _, .tup h a => .tup (e _ _ h) (DaAll.mono e a)
theorem DaAll.mono {F F' : Hp} (e : Ex F F') : ∀ {ds : List PyData} {vs : List V}, DaAll F vs ds → DaAll F' vs ds
  | [], _, .nil => .nil
  | _ :: _, _, .cons h t => .cons (h.mono e) (t.mono e)
end
mutual
theorem Da.dp {K : PySem.W.Frag} {F H : Hp} (e : Ex F H) : ∀ {d : PyData} {v : V}, Da F v d → Dp K H v d
  | .none, _, .non => .non
  | .bool b, _, .bl _ => .bl b
  | .int i, _, .int _ => .int i
  | .str x, _, .str _ => .str x
  | .list ds, _, .lst h a => .lst (.inl (.inl (e _ _ h))) (DaAll.dp e a)
  | .tuple ds, _, .tup h a => .tup (.inl (.inl (e _ _ h))) (DaAll.dp e a)
theorem DaAll.dp {K : PySem.W.Frag} {F H : Hp} (e : Ex F H) : ∀ {ds : List PyData} {vs : List V}, DaAll F vs ds → DpAll K H vs ds
  | [], _, .nil => .nil
  | _ :: _, _, .cons h t => .cons (h.dp e) (t.dp e)
end
section
variable {F : Hp} {vs ws : List V} {ds es : List PyData} {d : PyData} {v : V}
theorem DaAll.length : ∀ {vs : List V} {ds : List PyData}, DaAll F vs ds → vs.length = ds.length
  | _, _, .nil => rfl
  | _, _, .cons _ t => congrArg (· + 1) t.length
theorem DaAll.get : ∀ {vs : List V} {ds : List PyData} {i : Nat} {d : PyData}, DaAll F vs ds → ds[i]? = some d → ∃ v, vs[i]? = some v ∧ Da F v d
  | _, _, _, _, .nil, e => by simp at e
  | _, _, 0, _, .cons h _, e => by simp at e; subst e; exact ⟨_, rfl, h⟩
  | _, _, i + 1, _, .cons _ t, e => by
    obtain ⟨u, h1, h2⟩ := t.get (i := i) (by simpa using e)
    exact ⟨u, by simpa using h1, h2⟩
theorem DaAll.get' : ∀ {vs : List V} {ds : List PyData} {i : Nat} {v : V}, DaAll F vs ds → vs[i]? = some v → ∃ d, ds[i]? = some d ∧ Da F v d
  | _, _, _, _, .nil, e => by simp at e
  | _, _, 0, _, .cons h _, e => by simp at e; subst e; exact ⟨_, rfl, h⟩
  | _, _, i + 1, _, .cons _ t, e => by
    obtain ⟨u, h1, h2⟩ := t.get' (i := i) (by simpa using e)
    exact ⟨u, by simpa using h1, h2⟩
theorem DaAll.append : ∀ {vs : List V} {ds : List PyData}, DaAll F vs ds → DaAll F ws es → DaAll F (vs ++ ws) (ds ++ es)
  | _, _, .nil, k => k
  | _, _, .cons h t, k => .cons h (t.append k)
theorem DaAll.one (h : Da F v d) : DaAll F [v] [d] := .cons h .nil
theorem DaAll.take : ∀ {vs : List V} {ds : List PyData} (n : Nat), DaAll F vs ds → DaAll F (vs.take n) (ds.take n)
  | _, _, 0, _ => .nil
  | _, _, _ + 1, .nil => .nil
  | _, _, n + 1, .cons h t => .cons h (t.take n)
theorem DaAll.drop : ∀ {vs : List V} {ds : List PyData} (n : Nat), DaAll F vs ds → DaAll F (vs.drop n) (ds.drop n)
  | _, _, 0, h => h
  | _, _, _ + 1, .nil => .nil
  | _, _, n + 1, .cons _ t => t.drop n
theorem DaAll.erase : ∀ {vs : List V} {ds : List PyData} (n : Nat), DaAll F vs ds → DaAll F (vs.eraseIdx n) (ds.eraseIdx n)
  | _, _, _, .nil => .nil
  | _, _, 0, .cons _ t => t
  | _, _, n + 1, .cons h t => .cons h (t.erase n)
theorem DaAll.set (k : Da F v d) : ∀ {vs : List V} {ds : List PyData} (n : Nat), DaAll F vs ds → DaAll F (vs.set n v) (ds.set n d)
  | _, _, _, .nil => .nil
  | _, _, 0, .cons _ t => .cons k t
  | _, _, n + 1, .cons h t => .cons h (DaAll.set k n t)
end

/-! ### what is owned: objects that may change, none of which plain data leans on -/
abbrev Own := List (Addr × HO)
structure Wd0 (F : Hp) (O : Own) (H : Hp) : Prop where
  ex : Ex F H
  own : ∀ q ∈ O, H q.1 = some q.2 ∧ F q.1 = none
  nd : (O.map (·.1)).Nodup
  nt : ∀ q ∈ O, ∀ xs, q.2 ≠ .tup xs
section
variable {F F' H : Hp} {O O' : Own} {p : Addr} {o o' : HO}
theorem Wd0.perm (h : Wd0 F O H) (e : O.Perm O') : Wd0 F O' H :=
  ⟨h.ex, fun q m => h.own q (e.mem_iff.mpr m), (e.map (·.1)).nodup_iff.mp h.nd, fun q m => h.nt q (e.mem_iff.mpr m)⟩
theorem Wd0.tail (h : Wd0 F ((p, o) :: O) H) : Wd0 F O H := ⟨h.ex, fun q m => h.own q (List.mem_cons_of_mem _ m), (List.nodup_cons.mp h.nd).2, fun q m => h.nt q (List.mem_cons_of_mem _ m)⟩
theorem Wd0.drop {O1 : Own} (h : Wd0 F (O1 ++ O) H) : Wd0 F O H := by
  induction O1 with
  | nil => exact h
  | cons q r ih => exact ih h.tail
/-- a new frozen object -/
theorem Wd0.froz (h : Wd0 F O H) (n : H p = none) : Wd0 (upd F p o) O (upd H p o) := by
  refine ⟨fun a u e => ?_, fun q m => ?_, h.nd, h.nt⟩
  · by_cases c : a = p
    · subst c
      rw [upd_same] at e
      rw [upd_same]
      exact e
    · rw [upd_ne c] at e
      rw [upd_ne c]
      exact h.ex a u e
  · obtain ⟨h1, h2⟩ := h.own q m
    have c : q.1 ≠ p := ne_of_none h1 n
    rw [upd_ne c, upd_ne c]
    exact ⟨h1, h2⟩
theorem Wd0.exF (h : Wd0 F O H) (n : H p = none) : Ex F (upd F p o) := Ex.new (h.ex.none n)
/-- a new owned object -/
theorem Wd0.mine (h : Wd0 F O H) (n : H p = none) (hno : ∀ xs, o ≠ .tup xs := by intro _ h; cases h) : Wd0 F ((p, o) :: O) (upd H p o) := by
  refine ⟨h.ex.trans (Ex.new n), fun q m => ?_, ?_, fun q m => (List.mem_cons.mp m).elim (fun e => by subst e; exact hno) (h.nt q)⟩
  · rcases List.mem_cons.mp m with e | m
    · subst e
      exact ⟨upd_same, h.ex.none n⟩
    · obtain ⟨h1, h2⟩ := h.own q m
      have c : q.1 ≠ p := ne_of_none h1 n
      rw [upd_ne c]
      exact ⟨h1, h2⟩
  · refine List.nodup_cons.mpr ⟨fun m => ?_, h.nd⟩
    obtain ⟨q, m, e⟩ := List.mem_map.mp m
    have := (h.own q m).1
    rw [e, n] at this
    cases this
/-- an owned object changes -/
theorem Wd0.put (h : Wd0 F ((p, o) :: O) H) (hno : ∀ xs, o' ≠ .tup xs := by intro _ h; cases h) : Wd0 F ((p, o') :: O) (upd H p o') := by
  have np : F p = none := (h.own (p, o) (List.mem_cons_self ..)).2
  obtain ⟨n1, n2⟩ := List.nodup_cons.mp h.nd
  refine ⟨fun a u e => ?_, fun q m => ?_, List.nodup_cons.mpr ⟨n1, n2⟩, fun q m => (List.mem_cons.mp m).elim (fun e => by subst e; exact hno) fun m => h.nt q (List.mem_cons_of_mem _ m)⟩
  · rw [upd_ne (ne_of_none e np)]
    exact h.ex a u e
  · rcases List.mem_cons.mp m with e | m
    · subst e
      exact ⟨upd_same, np⟩
    · obtain ⟨h1, h2⟩ := h.own q (List.mem_cons_of_mem _ m)
      have c : q.1 ≠ p := fun e => n1 (List.mem_map.mpr ⟨q, m, e⟩)
      rw [upd_ne c]
      exact ⟨h1, h2⟩
/-- an owned object is frozen -/
theorem Wd0.still (h : Wd0 F ((p, o) :: O) H) : Wd0 (upd F p o) O H ∧ Ex F (upd F p o) := by
  have hp := h.own (p, o) (List.mem_cons_self ..)
  obtain ⟨n1, n2⟩ := List.nodup_cons.mp h.nd
  refine ⟨⟨fun a u e => ?_, fun q m => ?_, n2, fun q m => h.nt q (List.mem_cons_of_mem _ m)⟩, Ex.new hp.2⟩
  · by_cases c : a = p
    · subst c
      rw [upd_same] at e
      rw [hp.1]
      exact e
    · rw [upd_ne c] at e
      exact h.ex a u e
  · obtain ⟨h1, h2⟩ := h.own q (List.mem_cons_of_mem _ m)
    have c : q.1 ≠ p := fun e => n1 (List.mem_map.mpr ⟨q, m, e⟩)
    rw [upd_ne c]
    exact ⟨h1, h2⟩
end

/-- a tuple that stands is plain data's from now on -/
theorem Wd0.know {b : Addr} {xs : List V} (h : Wd0 F O H) (hb : H b = some (.tup xs)) : Wd0 (upd F b (.tup xs)) O H ∧ Ex F (upd F b (.tup xs)) := by
  refine ⟨⟨fun a u e => ?_, fun q m => ?_, h.nd, h.nt⟩, fun a u e => ?_⟩
  · by_cases c : a = b
    · subst c
      rw [upd_same] at e
      rw [hb]
      exact e
    · rw [upd_ne c] at e
      exact h.ex a u e
  · obtain ⟨h1, h2⟩ := h.own q m
    have c : q.1 ≠ b := fun e => by
      rw [e, hb] at h1
      exact h.nt q m xs (Option.some.inj h1).symm
    rw [upd_ne c]
    exact ⟨h1, h2⟩
  · by_cases c : a = b
    · subst c
      rw [upd_same, ← hb]
      exact h.ex a u e
    · rw [upd_ne c]
      exact e

/-! the tables of code objects, that lambdas fill -/
class Tb where
  T : List (Addr × Str)
section
variable [Tb]
def tbO (tb : List (Array Value)) : Own := (Tb.T.zip tb).map fun x => (x.1.1, HO.tbl x.2)
def TbOk (F : Hp) (tb : List (Array Value)) : Prop := tb.length = Tb.T.length ∧ ∀ x ∈ Tb.T.zip tb, TriplesOk x.2.toList ∧ ∀ (pos : Pos) (cv : Value), codeAmong pos x.2.toList = some cv → ∃ c, cv = .ref c ∧ F c = some (LamX.CodeO c x.1.2)
/-- what may be owned: no table, no code object -/
def okO (o : HO) : Prop := (∀ ps, o ≠ .tbl ps) ∧ ∀ c s, o ≠ LamX.CodeO c s
structure Wd (F : Hp) (O : Own) (H : Hp) : Prop where
  st : ∃ tb, TbOk F tb ∧ Wd0 F (tbO tb ++ O) H
  nb : ∀ a ps, F a ≠ some (.tbl ps)
  ok : ∀ q ∈ O, okO q.2
variable {F F' H : Hp} {O O' : Own} {p : Addr} {o o' : HO}
theorem TbOk.mono (e : Ex F F') {tb : List (Array Value)} (h : TbOk F tb) : TbOk F' tb := ⟨h.1, fun x m => ⟨(h.2 x m).1, fun pos cv z => let ⟨c, a, b⟩ := (h.2 x m).2 pos cv z; ⟨c, a, e _ _ b⟩⟩⟩
theorem Wd.ex (h : Wd F O H) : Ex F H := let ⟨_, _, w⟩ := h.st; w.ex
theorem Wd.own (h : Wd F O H) : ∀ q ∈ O, H q.1 = some q.2 ∧ F q.1 = none := let ⟨_, _, w⟩ := h.st; fun q m => w.own q (List.mem_append_right _ m)
theorem Wd.nd (h : Wd F O H) : (O.map (·.1)).Nodup := by
  obtain ⟨_, _, w⟩ := h.st
  have := w.nd
  rw [List.map_append] at this
  exact (List.nodup_append.mp this).2.1
theorem Wd.nt (h : Wd F O H) : ∀ q ∈ O, ∀ xs, q.2 ≠ .tup xs := let ⟨_, _, w⟩ := h.st; fun q m => w.nt q (List.mem_append_right _ m)
theorem Wd.perm (h : Wd F O H) (e : O.Perm O') : Wd F O' H := let ⟨tb, t, w⟩ := h.st; ⟨⟨tb, t, w.perm (e.append_left _)⟩, h.nb, fun q m => h.ok q (e.mem_iff.mpr m)⟩
theorem Wd.tail (h : Wd F ((p, o) :: O) H) : Wd F O H := let ⟨tb, t, w⟩ := h.st; ⟨⟨tb, t, (w.perm List.perm_middle).tail⟩, h.nb, fun q m => h.ok q (List.mem_cons_of_mem _ m)⟩
theorem Wd.drop {O1 : Own} (h : Wd F (O1 ++ O) H) : Wd F O H := by
  induction O1 with
  | nil => exact h
  | cons q r ih => exact ih h.tail
theorem Wd.exF (h : Wd F O H) (n : H p = none) : Ex F (upd F p o) := Ex.new (h.ex.none n)
theorem nb_upd (h : ∀ a ps, F a ≠ some (.tbl ps)) (hb : ∀ ps, o ≠ .tbl ps) : ∀ a ps, upd F p o a ≠ some (.tbl ps) := fun a ps e => by
  by_cases c : a = p
  · subst c
    rw [upd_same] at e
    exact hb ps (Option.some.inj e)
  · rw [upd_ne c] at e
    exact h a ps e
theorem Wd.froz (h : Wd F O H) (n : H p = none) (hb : ∀ ps, o ≠ .tbl ps := by intro _ h; cases h) : Wd (upd F p o) O (upd H p o) := let ⟨tb, t, w⟩ := h.st; ⟨⟨tb, t.mono (w.exF n), w.froz n⟩, nb_upd h.nb hb, h.ok⟩
theorem ok_cons (h : ∀ q ∈ O, okO q.2) (k : okO o) : ∀ q ∈ (p, o) :: O, okO q.2 := fun q m => (List.mem_cons.mp m).elim (fun e => by subst e; exact k) (h q)
theorem Wd.mine (h : Wd F O H) (n : H p = none) (hno : ∀ xs, o ≠ .tup xs := by intro _ h; cases h) (hk : okO o := by exact ⟨fun _ h => (nomatch h), fun _ _ h => by unfold LamX.CodeO at h; cases h⟩) : Wd F ((p, o) :: O) (upd H p o) := let ⟨tb, t, w⟩ := h.st; ⟨⟨tb, t, (w.mine n hno).perm List.perm_middle.symm⟩, h.nb, ok_cons h.ok hk⟩
theorem Wd.put (h : Wd F ((p, o) :: O) H) (hno : ∀ xs, o' ≠ .tup xs := by intro _ h; cases h) (hk : okO o' := by exact ⟨fun _ h => (nomatch h), fun _ _ h => by unfold LamX.CodeO at h; cases h⟩) : Wd F ((p, o') :: O) (upd H p o') := let ⟨tb, t, w⟩ := h.st; ⟨⟨tb, t, ((w.perm List.perm_middle).put hno).perm List.perm_middle.symm⟩, h.nb, ok_cons (fun q m => h.ok q (List.mem_cons_of_mem _ m)) hk⟩
theorem Wd.still (h : Wd F ((p, o) :: O) H) : Wd (upd F p o) O H ∧ Ex F (upd F p o) := by
  obtain ⟨tb, t, w⟩ := h.st
  obtain ⟨w1, x1⟩ := (w.perm List.perm_middle).still
  exact ⟨⟨⟨tb, t.mono x1, w1⟩, nb_upd h.nb (h.ok _ (List.mem_cons_self ..)).1, fun q m => h.ok q (List.mem_cons_of_mem _ m)⟩, x1⟩
theorem Wd.know {b : Addr} {xs : List V} (h : Wd F O H) (hb : H b = some (.tup xs)) : Wd (upd F b (.tup xs)) O H ∧ Ex F (upd F b (.tup xs)) := by
  obtain ⟨tb, t, w⟩ := h.st
  obtain ⟨w1, x1⟩ := w.know hb
  exact ⟨⟨⟨tb, t.mono x1, w1⟩, nb_upd h.nb (by intro _ h; cases h), h.ok⟩, x1⟩
end
variable [Tb]


/-! ### the source of draws -/
structure Gn where
  cells : List Int
  left : Int
  mixed : Int
  turn : Int
def srcD (c : Addr) (g : Gn) : HO := .dK [(.inr "cells", .ref c), (.inr "left", .int g.left), (.inr "mixed", .int g.mixed), (.inr "turn", .int g.turn)]
def srcO (a c : Addr) (g : Gn) : Own := [(a, srcD c g), (c, .lst (g.cells.map V.int))]

/-! ### a dict whose keys are tuples of tuples of ints -/
def hashN (ks : List (List Int)) : Int := reduceHash (Builtin.Tuple.tupleHashOf (ks.map fun k => reduceHash (Builtin.Tuple.tupleHashOf (k.map hashInt))))
def entN (x : List (List Int) × Addr × Value) : DictEntry := ⟨hashN x.1, .ref x.2.1, x.2.2⟩
def DNat (p : Addr) (kb : List (List (List Int) × Addr)) (h : Heap) : Prop := (p == sysModules) = false ∧ kb.length ≤ sizeLine ∧ ∃ xs : List (List (List Int) × Addr × Value), xs.map (fun x => (x.1, x.2.1)) = kb ∧
  ∃ o es ep, h.get? p = some o ∧ o.ExactDict ∧ o.data = .dict es ep ∧ es.toList = xs.map entN ∧ (xs.map (·.1)).Nodup
def nestD (ks : List (List Int)) : PyData := .tuple (ks.map fun k => .tuple (k.map PyData.int))

/-! ### slots -/
inductive Cell where
  | no | dat (d : PyData) | lst (ds : List PyData) | src (g : Gn) | dT (kvs : List (List L2.Key × PyData)) | dK (kvs : List (L2.Key × PyData)) | dN (ks : List (List (List Int)))
abbrev Ga := List Cell
/-- a dict's keys -/
def KN (F : Hp) (kb : List (List (List Int) × Addr)) (ks : List (List (List Int))) : Prop := kb.map (·.1) = ks ∧ ∀ x ∈ kb, Da F (.ref x.2) (nestD x.1)
theorem KN.mono {F F' : Hp} (e : Ex F F') {kb : List (List (List Int) × Addr)} {ks : List (List (List Int))} (h : KN F kb ks) : KN F' kb ks := ⟨h.1, fun x m => (h.2 x m).mono e⟩
/-- a dict's pairs -/
def KD {κ : Type} (F : Hp) : List (κ × PyData) → List (κ × V) → Prop := Paired fun p q => p.1 = q.1 ∧ Da F q.2 p.2
theorem KD.mono {κ : Type} {F F' : Hp} (e : Ex F F') : ∀ {l : List (κ × PyData)} {m : List (κ × V)}, KD F l m → KD F' l m
  | _, _, .nil => .nil
  | _, _, .cons h t => .cons ⟨h.1, h.2.mono e⟩ (KD.mono e t)
inductive RepC (a c : Addr) (F : Hp) : Option V → Cell → Own → Prop
  | no {x : Option V} : RepC a c F x .no []
  | dat {v : V} {d : PyData} : Da F v d → RepC a c F (some v) (.dat d) []
  | lst {p : Addr} {vs : List V} {ds : List PyData} : DaAll F vs ds → RepC a c F (some (.ref p)) (.lst ds) [(p, .lst vs)]
  | src {g : Gn} : RepC a c F (some (.ref a)) (.src g) (srcO a c g)
  | dT {p : Addr} {kvs : List (List L2.Key × PyData)} {kws : List (List L2.Key × V)} : KD F kvs kws → RepC a c F (some (.ref p)) (.dT kvs) [(p, .dT kws)]
  | dN {p : Addr} {kb : List (List (List Int) × Addr)} {ks : List (List (List Int))} : KN F kb ks → RepC a c F (some (.ref p)) (.dN ks) [(p, .ext (DNat p kb))]
  | dK {p : Addr} {kvs : List (L2.Key × PyData)} {kws : List (L2.Key × V)} : KD F kvs kws → RepC a c F (some (.ref p)) (.dK kvs) [(p, .dK kws)]
inductive Rep (a c : Addr) (F : Hp) : L2.St → Ga → Own → Prop
  | nil : Rep a c F [] [] []
  | cons {x : Option V} {k : Cell} {o : Own} {σ : L2.St} {Γ : Ga} {O : Own} : RepC a c F x k o → Rep a c F σ Γ O → Rep a c F (x :: σ) (k :: Γ) (o ++ O)
section
variable {a c : Addr} {F F' : Hp} {σ : L2.St} {Γ : Ga} {O : Own}
theorem RepC.mono (e : Ex F F') {x : Option V} {k : Cell} {o : Own} (h : RepC a c F x k o) : RepC a c F' x k o := by
  cases h with
  | no => exact .no
  | dat h => exact .dat (h.mono e)
  | lst h => exact .lst (h.mono e)
  | src => exact .src
  | dT h => exact .dT (h.mono e)
  | dK h => exact .dK (h.mono e)
  | dN h => exact .dN (h.mono e)
theorem Rep.mono (e : Ex F F') (h : Rep a c F σ Γ O) : Rep a c F' σ Γ O := by
  induction h with
  | nil => exact .nil
  | cons h _ ih => exact .cons (h.mono e) ih
theorem Rep.len (h : Rep a c F σ Γ O) : σ.length = Γ.length := by
  induction h with
  | nil => rfl
  | cons _ _ ih => exact congrArg (· + 1) ih
/-- the slot i, and what stands in it exchanged -/
theorem Rep.at (h : Rep a c F σ Γ O) : ∀ {i : Nat} {k : Cell}, Γ[i]? = some k → ∃ x o O', σ[i]? = some x ∧ RepC a c F x k o ∧ O.Perm (o ++ O') ∧
    ∀ x' k' o', RepC a c F x' k' o' → ∃ O2, Rep a c F (σ.set i x') (Γ.set i k') O2 ∧ O2.Perm (o' ++ O') := by
  induction h with
  | nil => intro i k e; simp at e
  | @cons x k o σ Γ O hc hr ih =>
    intro i k' e
    cases i with
    | zero =>
      simp at e
      subst e
      exact ⟨x, o, O, rfl, hc, .refl _, fun x' k' o' h' => ⟨o' ++ O, .cons h' hr, .refl _⟩⟩
    | succ i =>
      obtain ⟨y, o1, O1, e1, c1, p1, r1⟩ := ih (by simpa using e)
      refine ⟨y, o1, o ++ O1, by simpa using e1, c1, ?_, fun x' k2 o' h' => ?_⟩
      · refine (List.Perm.append_left o p1).trans ?_
        rw [← List.append_assoc, ← List.append_assoc]
        exact List.Perm.append_right _ List.perm_append_comm
      · obtain ⟨O2, r2, p2⟩ := r1 x' k2 o' h'
        refine ⟨o ++ O2, .cons hc r2, (List.Perm.append_left o p2).trans ?_⟩
        rw [← List.append_assoc, ← List.append_assoc]
        exact List.Perm.append_right _ List.perm_append_comm
end

/-! ### judgements -/
abbrev MX := Ga → Option (PyData × Ga)
abbrev ML := Ga → Option (List PyData × Ga)
/-- the state: slots σ stand for Γ, owning O; R is owned by others -/
structure Sta (a c : Addr) (σ : L2.St) (Γ : Ga) (R : Own) (F H : Hp) : Prop where
  st : ∃ O, Rep a c F σ Γ O ∧ Wd F (O ++ R) H
def EvX (te : TE) (m : MX) : Prop := ∀ a c σ Γ R F H, Sta a c σ Γ R F H → ∀ d Γ', m Γ = some (d, Γ') → ∀ Q : VK,
  (∀ v F' H', Ex F F' → Sta a c σ Γ' R F' H' → Da F' v d → Q v H') → te σ H Q
/-- a new list, not yet seen by others -/
def EvL (te : TE) (m : ML) : Prop := ∀ a c σ Γ R F H, Sta a c σ Γ R F H → ∀ ds Γ', m Γ = some (ds, Γ') → ∀ Q : VK,
  (∀ p vs F' H', Ex F F' → Sta a c σ Γ' ((p, .lst vs) :: R) F' H' → DaAll F' vs ds → Q (.ref p) H') → te σ H Q
def EvT (tt : TT) (m : Ga → Option (Bool × Ga)) : Prop := ∀ a c σ Γ R F H, Sta a c σ Γ R F H → ∀ b Γ', m Γ = some (b, Γ') → ∀ Q : Bool → Hp → Prop,
  (∀ F' H', Ex F F' → Sta a c σ Γ' R F' H' → Q b H') → tt σ H Q
def EvA (ta : TA) (m : ML) : Prop := ∀ a c σ Γ R F H, Sta a c σ Γ R F H → ∀ ds Γ', m Γ = some (ds, Γ') → ∀ Q : List V → Hp → Prop,
  (∀ vs F' H', Ex F F' → Sta a c σ Γ' R F' H' → DaAll F' vs ds → Q vs H') → ta σ H Q
section
variable {a c : Addr} {F F' H H' : Hp} {σ : L2.St} {Γ : Ga} {R : Own}
theorem Sta.ex (h : Sta a c σ Γ R F H) : Ex F H := let ⟨_, _, w⟩ := h.st; w.ex
theorem Sta.froz {p : Addr} {o : HO} (h : Sta a c σ Γ R F H) (n : H p = none) (hb : ∀ ps, o ≠ .tbl ps := by intro _ h; cases h) : Sta a c σ Γ R (upd F p o) (upd H p o) ∧ Ex F (upd F p o) := by
  obtain ⟨O, r, w⟩ := h.st
  exact ⟨⟨O, r.mono (w.exF n), w.froz n hb⟩, w.exF n⟩
theorem Sta.mine {p : Addr} {o : HO} (h : Sta a c σ Γ R F H) (n : H p = none) (hno : ∀ xs, o ≠ .tup xs := by intro _ h; cases h) (hk : okO o := by exact ⟨fun _ h => (nomatch h), fun _ _ h => by unfold LamX.CodeO at h; cases h⟩) : Sta a c σ Γ ((p, o) :: R) F (upd H p o) := by
  obtain ⟨O, r, w⟩ := h.st
  exact ⟨O, r, (w.mine n hno hk).perm List.perm_middle.symm⟩
theorem Sta.still {p : Addr} {o : HO} (h : Sta a c σ Γ ((p, o) :: R) F H) : Sta a c σ Γ R (upd F p o) H ∧ Ex F (upd F p o) := by
  obtain ⟨O, r, w⟩ := h.st
  obtain ⟨w1, e1⟩ := (w.perm List.perm_middle).still
  exact ⟨⟨O, r.mono e1, w1⟩, e1⟩
theorem Sta.at_own {p : Addr} {o : HO} (h : Sta a c σ Γ ((p, o) :: R) F H) : H p = some o := by
  obtain ⟨O, r, w⟩ := h.st
  exact (w.own (p, o) (List.mem_append_right _ (List.mem_cons_self ..))).1
end
/-- freezing a new list -/
theorem EvL.x {te : TE} {m : ML} (h : EvL te m) : EvX te (fun Γ => (m Γ).map fun (ds, Γ') => (.list ds, Γ')) := by
  intro a c σ Γ R F H s d Γ' e Q q
  cases e1 : m Γ with
  | none => simp only [e1, Option.map_none] at e; cases e
  | some r =>
    obtain ⟨ds, Γ1⟩ := r
    simp only [e1, Option.map_some] at e
    cases e
    refine h a c σ Γ R F H s ds _ e1 Q fun p vs F' H' x1 s1 a1 => ?_
    obtain ⟨s2, x2⟩ := s1.still
    exact q _ _ _ (x1.trans x2) s2 (.lst upd_same (a1.mono x2))
end MM


namespace MM
open PySem PySem.Spec PyProof.Rows L2
variable [Tb]

/-! ### readers: what is looked at where it stands, also while it is owned -/
def Live (F H : Hp) (v : V) : PyData → Prop
  | .list ds => ∃ p vs, v = .ref p ∧ H p = some (.lst vs) ∧ DaAll F vs ds
  | d => Da F v d
theorem Live.of {F H : Hp} (e : Ex F H) {v : V} {d : PyData} (h : Da F v d) : Live F H v d := by
  cases h with
  | lst h a => exact ⟨_, _, rfl, e _ _ h, a⟩
  | non => exact .non
  | bl b => exact .bl b
  | int i => exact .int i
  | str x => exact .str x
  | tup h a => exact .tup h a
abbrev Vw := Ga → Option PyData
abbrev MR := Ga → Option (Vw × Ga)
def EvR (te : TE) (m : MR) : Prop := ∀ a c σ Γ R F H, Sta a c σ Γ R F H → ∀ w Γ', m Γ = some (w, Γ') → ∀ Q : VK,
  (∀ v F' H', Ex F F' → Sta a c σ Γ' R F' H' → (∀ Γ2 F2 H2 d, Ex F' F2 → Sta a c σ Γ2 R F2 H2 → w Γ2 = some d → Live F2 H2 v d) → Q v H') → te σ H Q
def rX (m : MX) : MR := fun Γ => (m Γ).bind fun r => some (fun _ => some r.1, r.2)
def look (i : Nat) : Vw := fun Γ => match Γ[i]? with
  | some (.lst ds) => some (.list ds)
  | some (.dat d) => some d
  | _ => none
def rVar (i : Nat) : MR := fun Γ => (look i Γ).bind fun _ => some (look i, Γ)
theorem EvX.r {te : TE} {m : MX} (h : EvX te m) : EvR te (rX m) := by
  intro a c σ Γ R F H s w Γ' e Q q
  obtain ⟨⟨d, Γ1⟩, e1, e2⟩ := Option.bind_eq_some_iff.mp e
  cases e2
  refine h a c σ Γ R F H s d Γ1 e1 Q fun v F' H' x1 s1 d1 => q v F' H' x1 s1 fun Γ2 F2 H2 d' x2 s2 e3 => ?_
  cases e3
  exact Live.of s2.ex (d1.mono x2)
section
variable {a c : Addr} {F H : Hp} {σ : L2.St} {Γ : Ga} {R : Own}
theorem Sta.look (s : Sta a c σ Γ R F H) {i : Nat} {d : PyData} (e : look i Γ = some d) : ∃ v, σ[i]? = some (some v) ∧ Live F H v d := by
  obtain ⟨O, r, w⟩ := s.st
  unfold MM.look at e
  cases k : Γ[i]? with
  | none => rw [k] at e; cases e
  | some x =>
    rw [k] at e
    obtain ⟨y, o, O', e1, c1, p1, _⟩ := r.at k
    cases x with
    | no => cases e
    | src g => cases e
    | dT _ => cases e
    | dK _ => cases e
    | dN _ => cases e
    | dat d' =>
      cases e
      cases c1 with
      | dat h => exact ⟨_, e1, Live.of w.ex h⟩
    | lst ds =>
      cases e
      cases c1 with
      | lst h =>
        rename_i p vs
        refine ⟨_, e1, _, _, rfl, ?_, h⟩
        exact (w.own (p, .lst vs) (List.mem_append_left _ (p1.mem_iff.mpr (List.mem_append_left _ (List.mem_cons_self ..))))).1
end
theorem evr_var (i : Nat) : EvR (tVar i) (rVar i) := by
  intro a c σ Γ R F H s w Γ' e Q q
  obtain ⟨d, e1, e2⟩ := Option.bind_eq_some_iff.mp e
  cases e2
  obtain ⟨v, h1, h2⟩ := s.look e1
  refine ⟨v, h1, q v F H (Ex.refl F) s fun Γ2 F2 H2 d' x2 s2 e3 => ?_⟩
  obtain ⟨v', h1', h2'⟩ := s2.look e3
  rw [h1] at h1'
  cases h1'
  exact h2'

/-! ### plain readings -/
def mVar (i : Nat) : MX := fun Γ => match Γ[i]? with
  | some (.dat d) => some (d, Γ)
  | _ => none
def mC (d : PyData) : MX := fun Γ => some (d, Γ)
theorem evx_var (i : Nat) : EvX (tVar i) (mVar i) := by
  intro a c σ Γ R F H s d Γ' e Q q
  unfold mVar at e
  cases k : Γ[i]? with
  | none => rw [k] at e; cases e
  | some x =>
    rw [k] at e
    cases x with
    | no => cases e
    | src g => cases e
    | dT _ => cases e
    | dK _ => cases e
    | dN _ => cases e
    | lst ds => cases e
    | dat d' =>
      cases e
      obtain ⟨O, r, w⟩ := s.st
      obtain ⟨y, o, O', e1, c1, p1, _⟩ := r.at k
      cases c1 with
      | dat h => exact ⟨_, e1, q _ F H (Ex.refl F) s h⟩
theorem evx_c {v : V} {d : PyData} (h : ∀ F, Da F v d) : EvX (tC v) (mC d) := by
  intro a c σ Γ R F H s d' Γ' e Q q
  cases e
  exact q v F H (Ex.refl F) s (h F)
def lNil : ML := fun Γ => some ([], Γ)
def lCons (m : MX) (l : ML) : ML := fun Γ => (m Γ).bind fun r => (l r.2).bind fun t => some (r.1 :: t.1, t.2)
theorem eva_nil : EvA tNil lNil := by
  intro a c σ Γ R F H s ds Γ' e Q q
  cases e
  exact q [] F H (Ex.refl F) s .nil
theorem eva_cons {ta : TE} {tr : TA} {m : MX} {l : ML} (h : EvX ta m) (hr : EvA tr l) : EvA (tCons ta tr) (lCons m l) := by
  intro a c σ Γ R F H s ds Γ' e Q q
  obtain ⟨⟨d, Γ1⟩, e1, e⟩ := Option.bind_eq_some_iff.mp e
  obtain ⟨⟨ds1, Γ2⟩, e2, e⟩ := Option.bind_eq_some_iff.mp e
  cases e
  refine h a c σ Γ R F H s d Γ1 e1 _ fun v F1 H1 x1 s1 d1 => ?_
  refine hr a c σ Γ1 R F1 H1 s1 ds1 _ e2 _ fun vs F2 H2 x2 s2 d2 => ?_
  exact q _ F2 H2 (x1.trans x2) s2 (.cons (d1.mono x2) d2)
def lim : Nat := 100000
theorem lim_sz {n : Nat} (h : n ≤ lim) : n ≤ sizeLine := Nat.le_trans h (by decide)
theorem lim_lt {n : Nat} (h : n ≤ lim) : n < sizeLine := Nat.lt_of_le_of_lt h (by decide)
def fit {α : Type} (n : Nat) (x : α) : Option α := if n ≤ lim then some x else none
theorem fit_some {α : Type} {n : Nat} {x y : α} (h : fit n x = some y) : n ≤ lim ∧ x = y := by
  unfold fit at h
  split at h
  · exact ⟨by assumption, Option.some.inj h⟩
  · cases h
theorem fit_eq {α : Type} {n : Nat} {x : α} (h : n ≤ lim) : fit n x = some x := if_pos h
def mTup (l : ML) : MX := fun Γ => (l Γ).bind fun r => (fit r.1.length (.tuple r.1)).bind fun d => some (d, r.2)
def lLst (l : ML) : ML := fun Γ => (l Γ).bind fun r => (fit r.1.length r.1).bind fun d => some (d, r.2)
theorem evx_tup {ta : TA} {l : ML} (h : EvA ta l) : EvX (tTup ta) (mTup l) := by
  intro a c σ Γ R F H s d Γ' e Q q
  obtain ⟨⟨ds, Γ1⟩, e1, e⟩ := Option.bind_eq_some_iff.mp e
  obtain ⟨d1, e2, e⟩ := Option.bind_eq_some_iff.mp e
  cases e
  obtain ⟨z, rfl⟩ := fit_some e2
  refine h a c σ Γ R F H s ds Γ1 e1 _ fun vs F1 H1 x1 s1 d1 => ?_
  refine ⟨by rw [d1.length]; exact lim_sz z, fun p hp => ?_⟩
  obtain ⟨s2, x2⟩ := s1.froz (o := .tup vs) hp
  exact q _ _ _ (x1.trans x2) s2 (.tup upd_same (d1.mono x2))
theorem evl_lst {ta : TA} {l : ML} (h : EvA ta l) : EvL (tLst ta) (lLst l) := by
  intro a c σ Γ R F H s d Γ' e Q q
  obtain ⟨⟨ds, Γ1⟩, e1, e⟩ := Option.bind_eq_some_iff.mp e
  obtain ⟨d1, e2, e⟩ := Option.bind_eq_some_iff.mp e
  cases e
  obtain ⟨z, rfl⟩ := fit_some e2
  refine h a c σ Γ R F H s ds Γ1 e1 _ fun vs F1 H1 x1 s1 d1 => ?_
  refine ⟨by rw [d1.length]; exact lim_sz z, fun p hp => ?_⟩
  exact q _ _ _ _ x1 (s1.mine (o := .lst vs) hp) d1

/-! ### two-place operations on plain data -/
def OpD (r : R2) (f : PyData → PyData → Option PyData) : Prop := ∀ a c σ Γ R F H, Sta a c σ Γ R F H → ∀ x y dx dy d, Da F x dx → Da F y dy → f dx dy = some d → ∀ Q : VK,
  (∀ v F' H', Ex F F' → Sta a c σ Γ R F' H' → Da F' v d → Q v H') → r x y H Q
def mOp (f : PyData → PyData → Option PyData) (m n : MX) : MX := fun Γ => (m Γ).bind fun r => (n r.2).bind fun t => (f r.1 t.1).bind fun d => some (d, t.2)
theorem evx_op {r : R2} {f : PyData → PyData → Option PyData} {ta tb : TE} {m n : MX} (hr : OpD r f) (ha : EvX ta m) (hb : EvX tb n) : EvX (tOp r ta tb) (mOp f m n) := by
  intro a c σ Γ R F H s d Γ' e Q q
  obtain ⟨⟨d1, Γ1⟩, e1, e⟩ := Option.bind_eq_some_iff.mp e
  obtain ⟨⟨d2, Γ2⟩, e2, e⟩ := Option.bind_eq_some_iff.mp e
  obtain ⟨d3, e3, e⟩ := Option.bind_eq_some_iff.mp e
  cases e
  refine ha a c σ Γ R F H s d1 Γ1 e1 _ fun v F1 H1 x1 s1 h1 => ?_
  refine hb a c σ Γ1 R F1 H1 s1 d2 _ e2 _ fun u F2 H2 x2 s2 h2 => ?_
  exact hr a c σ _ R F2 H2 s2 v u d1 d2 d (h1.mono x2) h2 e3 Q fun w F3 H3 x3 s3 h3 => q w F3 H3 ((x1.trans x2).trans x3) s3 h3
def fInt (g : Int → Int → PyData) : PyData → PyData → Option PyData
  | .int i, .int j => some (g i j)
  | _, _ => none
theorem fInt_some {g : Int → Int → PyData} {x y d : PyData} (h : fInt g x y = some d) : ∃ i j, x = .int i ∧ y = .int j ∧ d = g i j := by
  unfold fInt at h
  split at h
  · exact ⟨_, _, rfl, rfl, (Option.some.inj h).symm⟩
  · cases h
theorem Da.int_inv {F : Hp} {v : V} {i : Int} (h : Da F v (.int i)) : v = .int i := by cases h; rfl
theorem Da.bl_inv {F : Hp} {v : V} {b : Bool} (h : Da F v (.bool b)) : v = .bl b := by cases h; rfl
theorem opd_int {g : Int → Int → V} {k : Int → Int → PyData} (h : ∀ F i j, Da F (g i j) (k i j)) : OpD (rI0 g) (fInt k) := by
  intro a c σ Γ R F H s x y dx dy d h1 h2 e Q q
  obtain ⟨i, j, rfl, rfl, rfl⟩ := fInt_some e
  exact ⟨i, j, h1.int_inv, h2.int_inv, q _ F H (Ex.refl F) s (h F i j)⟩
def fAdd := fInt fun i j => .int (i + j)
def fSub := fInt fun i j => .int (i - j)
theorem opd_add : OpD (rI0 fun i j => .int (i + j)) fAdd := opd_int fun _ _ _ => .int _
theorem opd_sub : OpD (rI0 fun i j => .int (i - j)) fSub := opd_int fun _ _ _ => .int _
/-- == of data -/
def fEq (neg : Bool) : PyData → PyData → Option PyData := fun d e => if SeqAt.shaped d = true ∧ SeqAt.shaped e = true then some (.bool (if neg then !PyData.eqv d e else PyData.eqv d e)) else none
theorem opd_eq {K : PySem.W.Frag} : OpD (rEqD K) (fEq false) := by
  intro a c σ Γ R F H s x y dx dy d h1 h2 e Q q
  unfold fEq at e
  split at e
  · cases e
    rename_i z
    exact ⟨dx, dy, h1.dp s.ex, h2.dp s.ex, z.1, z.2, q _ F H (Ex.refl F) s (.bl _)⟩
  · cases e
theorem opd_ne {K : PySem.W.Frag} : OpD (rNeD K) (fEq true) := by
  intro a c σ Γ R F H s x y dx dy d h1 h2 e Q q
  unfold fEq at e
  split at e
  · cases e
    rename_i z
    exact ⟨dx, dy, h1.dp s.ex, h2.dp s.ex, z.1, z.2, q _ F H (Ex.refl F) s (.bl _)⟩
  · cases e
def fCatT : PyData → PyData → Option PyData
  | .tuple xs, .tuple ys => if xs = [] then none else fit (xs.length + ys.length) (.tuple (xs ++ ys))
  | _, _ => none
end MM


namespace MM
open PySem PySem.Spec PyProof.Rows L2
variable [Tb]

/-! ### tuples and lists joined -/
def fCat : PyData → PyData → Option PyData
  | .tuple xs, .tuple ys => fit (xs.length + ys.length) (.tuple (xs ++ ys))
  | _, _ => none
theorem opd_cat {K : PySem.W.Frag} : OpD (rCatA K) fCat := by
  intro a c σ Γ R F H s x y dx dy d h1 h2 e Q q
  unfold fCat at e
  split at e
  · rename_i xs ys
    obtain ⟨z, rfl⟩ := fit_some e
    cases h1 with
    | tup p1 a1 =>
      cases h2 with
      | tup p2 a2 =>
        refine ⟨_, _, _, _, rfl, rfl, .inl (.inl (s.ex _ _ p1)), .inl (.inl (s.ex _ _ p2)), by rw [a1.length, a2.length]; exact lim_sz z, fun e => ?_, fun _ e => ?_, fun _ _ p hp => ?_⟩
        · subst e
          cases a1
          exact q _ F H (Ex.refl F) s (.tup p2 a2)
        · subst e
          cases a2
          rw [List.append_nil] at q
          exact q _ F H (Ex.refl F) s (.tup p1 a1)
        · obtain ⟨s2, x2⟩ := s.froz (o := .tup _) hp
          exact q _ _ _ x2 s2 (.tup upd_same ((a1.append a2).mono x2))
  · cases e
/-- x + y of lists that stand where they are: the left one is looked at behind the right one -/
def lCat (m n : MR) : ML := fun Γ => (m Γ).bind fun r => (n r.2).bind fun t => (r.1 t.2).bind fun x => (t.1 t.2).bind fun y => match x, y with
  | .list xs, .list ys => (fit (xs.length + ys.length) (xs ++ ys)).bind fun d => some (d, t.2)
  | _, _ => none
theorem evl_cat {ta tb : TE} {m n : MR} (ha : EvR ta m) (hb : EvR tb n) : EvL (tOp rCat ta tb) (lCat m n) := by
  intro a c σ Γ R F H s ds Γ' e Q q
  obtain ⟨⟨w1, Γ1⟩, e1, e⟩ := Option.bind_eq_some_iff.mp e
  obtain ⟨⟨w2, Γ2⟩, e2, e⟩ := Option.bind_eq_some_iff.mp e
  obtain ⟨x, e3, e⟩ := Option.bind_eq_some_iff.mp e
  obtain ⟨y, e4, e⟩ := Option.bind_eq_some_iff.mp e
  split at e
  · rename_i xs ys
    obtain ⟨d, e5, e⟩ := Option.bind_eq_some_iff.mp e
    cases e
    obtain ⟨z, rfl⟩ := fit_some e5
    refine ha a c σ Γ R F H s w1 Γ1 e1 _ fun v F1 H1 x1 s1 l1 => ?_
    refine hb a c σ Γ1 R F1 H1 s1 w2 _ e2 _ fun u F2 H2 x2 s2 l2 => ?_
    obtain ⟨p, vs, rfl, hp, a1⟩ := l1 _ _ _ _ x2 s2 e3
    obtain ⟨p', us, rfl, hp', a2⟩ := l2 _ _ _ _ (Ex.refl _) s2 e4
    refine ⟨p, p', vs, us, rfl, rfl, hp, hp', by rw [a1.length, a2.length]; exact lim_sz z, fun b hb => ?_⟩
    exact q _ _ _ _ (x1.trans x2) (s2.mine hb) (a1.append a2)
  · cases e

/-! ### an item -/
def fIx : PyData → PyData → Option PyData
  | .list ds, .int i => atI ds i
  | .tuple ds, .int i => atI ds i
  | _, _ => none
theorem fIx_some {x y d : PyData} (h : fIx x y = some d) : ∃ ds i, y = .int i ∧ (x = .list ds ∨ x = .tuple ds) ∧ atI ds i = some d := by
  unfold fIx at h
  split at h
  · exact ⟨_, _, rfl, .inl rfl, h⟩
  · exact ⟨_, _, rfl, .inr rfl, h⟩
  · cases h
def mIx (m : MR) (n : MX) : MX := fun Γ => (m Γ).bind fun r => (n r.2).bind fun t => (r.1 t.2).bind fun x => (fIx x t.1).bind fun d => some (d, t.2)
theorem DaAll.atI {F : Hp} {vs : List V} {ds : List PyData} (h : DaAll F vs ds) {i : Int} {d : PyData} (e : L2.atI ds i = some d) : ∃ v, L2.atI vs i = some v ∧ Da F v d := by
  unfold L2.atI at e ⊢
  rw [h.length]
  cases k : ixN ds.length i with
  | none => rw [k] at e; cases e
  | some j =>
    rw [k] at e
    exact h.get e
theorem evx_ix {K : PySem.W.Frag} {ta tb : TE} {m : MR} {n : MX} (ha : EvR ta m) (hb : EvX tb n) : EvX (tOp (rIx K) ta tb) (mIx m n) := by
  intro a c σ Γ R F H s d Γ' e Q q
  obtain ⟨⟨w1, Γ1⟩, e1, e⟩ := Option.bind_eq_some_iff.mp e
  obtain ⟨⟨d2, Γ2⟩, e2, e⟩ := Option.bind_eq_some_iff.mp e
  obtain ⟨x, e3, e⟩ := Option.bind_eq_some_iff.mp e
  obtain ⟨d', e4, e⟩ := Option.bind_eq_some_iff.mp e
  cases e
  refine ha a c σ Γ R F H s w1 Γ1 e1 _ fun v F1 H1 x1 s1 l1 => ?_
  refine hb a c σ Γ1 R F1 H1 s1 d2 _ e2 _ fun u F2 H2 x2 s2 h2 => ?_
  have l := l1 _ _ _ _ x2 s2 e3
  obtain ⟨ds, i, rfl, k, e5⟩ := fIx_some e4
  rcases k with rfl | rfl
  · obtain ⟨p, vs, rfl, hp, a1⟩ := l
    obtain ⟨v, h3, h4⟩ := a1.atI e5
    exact .inl ⟨p, vs, _, v, rfl, h2.int_inv, .inl (.inl hp), h3, q v F2 H2 (x1.trans x2) s2 h4⟩
  · have l' : Da F2 v (.tuple ds) := l
    cases l' with
    | tup hp a1 =>
      obtain ⟨v, h3, h4⟩ := a1.atI e5
      exact .inr (.inl ⟨_, _, _, v, rfl, h2.int_inv, .inl (.inl (s2.ex _ _ hp)), h3, q v F2 H2 (x1.trans x2) s2 h4⟩)

/-! ### built-ins of one argument that stands where it is -/
def CallV (r : List V → Hp → VK → Prop) (f : PyData → Option PyData) : Prop := ∀ a c σ Γ R F H, Sta a c σ Γ R F H → ∀ v d e, Live F H v d → f d = some e → ∀ Q : VK,
  (∀ v F' H', Ex F F' → Sta a c σ Γ R F' H' → Da F' v e → Q v H') → r [v] H Q
def CallL (r : List V → Hp → VK → Prop) (f : PyData → Option (List PyData)) : Prop := ∀ a c σ Γ R F H, Sta a c σ Γ R F H → ∀ v d es, Live F H v d → f d = some es → ∀ Q : VK,
  (∀ p vs F' H', Ex F F' → Sta a c σ Γ ((p, .lst vs) :: R) F' H' → DaAll F' vs es → Q (.ref p) H') → r [v] H Q
def m1 (f : PyData → Option PyData) (m : MR) : MX := fun Γ => (m Γ).bind fun r => (r.1 r.2).bind fun x => (f x).bind fun d => some (d, r.2)
def l1 (f : PyData → Option (List PyData)) (m : MR) : ML := fun Γ => (m Γ).bind fun r => (r.1 r.2).bind fun x => (f x).bind fun d => some (d, r.2)
theorem evx_1 {r : List V → Hp → VK → Prop} {f : PyData → Option PyData} {te : TE} {m : MR} (hr : CallV r f) (h : EvR te m) : EvX (tCB r (tCons te tNil)) (m1 f m) := by
  intro a c σ Γ R F H s d Γ' e Q q
  obtain ⟨⟨w1, Γ1⟩, e1, e⟩ := Option.bind_eq_some_iff.mp e
  obtain ⟨x, e3, e⟩ := Option.bind_eq_some_iff.mp e
  obtain ⟨d', e4, e⟩ := Option.bind_eq_some_iff.mp e
  cases e
  refine h a c σ Γ R F H s w1 _ e1 _ fun v F1 H1 x1 s1 l1 => ?_
  exact hr a c σ _ R F1 H1 s1 v x _ (l1 _ _ _ _ (Ex.refl _) s1 e3) e4 Q fun v F' H' x2 s2 d2 => q v F' H' (x1.trans x2) s2 d2
theorem evl_1 {r : List V → Hp → VK → Prop} {f : PyData → Option (List PyData)} {te : TE} {m : MR} (hr : CallL r f) (h : EvR te m) : EvL (tCB r (tCons te tNil)) (l1 f m) := by
  intro a c σ Γ R F H s d Γ' e Q q
  obtain ⟨⟨w1, Γ1⟩, e1, e⟩ := Option.bind_eq_some_iff.mp e
  obtain ⟨x, e3, e⟩ := Option.bind_eq_some_iff.mp e
  obtain ⟨d', e4, e⟩ := Option.bind_eq_some_iff.mp e
  cases e
  refine h a c σ Γ R F H s w1 _ e1 _ fun v F1 H1 x1 s1 l1 => ?_
  exact hr a c σ _ R F1 H1 s1 v x _ (l1 _ _ _ _ (Ex.refl _) s1 e3) e4 Q fun p vs F' H' x2 s2 d2 => q p vs F' H' (x1.trans x2) s2 d2
/-- the items of a list or a tuple -/
def items : PyData → Option (List PyData)
  | .list ds => some ds
  | .tuple ds => some ds
  | _ => none
theorem Live.items {F H : Hp} (e : Ex F H) {v : V} {d : PyData} {ds : List PyData} (h : Live F H v d) (i : MM.items d = some ds) : ∃ p vs, v = .ref p ∧ DaAll F vs ds ∧ (H p = some (.lst vs) ∨ (F p = some (.tup vs) ∧ d = .tuple ds)) := by
  unfold MM.items at i
  split at i
  · cases i
    obtain ⟨p, vs, rfl, hp, a⟩ := h
    exact ⟨p, vs, rfl, a, .inl hp⟩
  · cases i
    have h' : Da F v (.tuple _) := h
    cases h' with
    | tup hp a => exact ⟨_, _, rfl, a, .inr ⟨hp, rfl⟩⟩
  · cases i
theorem sq_or {K : PySem.W.Frag} {F H : Hp} {p : Addr} {vs : List V} (e : Ex F H) {C : Prop} (h : H p = some (.lst vs) ∨ (F p = some (.tup vs) ∧ C)) : SqL K H p vs ∨ SqT K H p vs := h.elim (fun h => .inl (.inl (.inl h))) fun h => .inr (.inl (.inl (e _ _ h.1)))
def fLen : PyData → Option PyData := fun d => (items d).bind fun ds => some (.int ds.length)
theorem callv_len {K : PySem.W.Frag} : CallV (fun xs H Q => ∃ p ys, xs = [.ref p] ∧ (SqL K H p ys ∨ SqT K H p ys) ∧ Q (.int ys.length) H) fLen := by
  intro a c σ Γ R F H s v d e l h Q q
  obtain ⟨ds, i, h⟩ := Option.bind_eq_some_iff.mp h
  cases h
  obtain ⟨p, vs, rfl, a1, w⟩ := l.items s.ex i
  refine ⟨p, vs, rfl, sq_or s.ex w, ?_⟩
  rw [a1.length]
  exact q _ F H (Ex.refl F) s (.int _)
theorem calll_list {K : PySem.W.Frag} : CallL (fun xs H Q => ∃ p ys, xs = [.ref p] ∧ (SqL K H p ys ∨ SqT K H p ys) ∧ ∀ l, H l = none → Q (.ref l) (upd H l (.lst ys))) items := by
  intro a c σ Γ R F H s v d e l h Q q
  obtain ⟨p, vs, rfl, a1, w⟩ := l.items s.ex h
  exact ⟨p, vs, rfl, sq_or s.ex w, fun b hb => q _ _ _ _ (Ex.refl F) (s.mine hb) a1⟩
def fTuple : PyData → Option PyData := fun d => (items d).bind fun ds => some (.tuple ds)
theorem callv_tuple {K : PySem.W.Frag} : CallV (fun xs H Q => ∃ p ys, xs = [.ref p] ∧ ((SqL K H p ys ∧ ∀ l, H l = none → Q (.ref l) (upd H l (.tup ys))) ∨ (SqT K H p ys ∧ Q (.ref p) H))) fTuple := by
  intro a c σ Γ R F H s v d e l h Q q
  obtain ⟨ds, i, h⟩ := Option.bind_eq_some_iff.mp h
  cases h
  obtain ⟨p, vs, rfl, a1, w⟩ := l.items s.ex i
  refine ⟨p, vs, rfl, w.elim (fun w => .inl ⟨.inl (.inl w), fun b hb => ?_⟩) fun w => .inr ⟨.inl (.inl (s.ex _ _ w.1)), q _ F H (Ex.refl F) s (.tup w.1 a1)⟩⟩
  obtain ⟨s2, x2⟩ := s.froz (o := .tup _) hb
  exact q _ _ _ x2 s2 (.tup upd_same (a1.mono x2))

/-! ### slices -/
def cutD (ds : List PyData) (lo hi : Option Int) : List PyData := (ds.drop (HT.sIx ds.length 0 lo)).take (HT.sIx ds.length ds.length hi - HT.sIx ds.length 0 lo)
theorem DaAll.cut {F : Hp} {vs : List V} {ds : List PyData} (h : DaAll F vs ds) (lo hi : Option Int) : DaAll F (cutV vs lo hi) (cutD ds lo hi) := by
  unfold cutV cutD
  rw [h.length]
  exact (h.drop _).take _
abbrev MO := Ga → Option (Option Int × Ga)
def EvO (to : TO) (m : MO) : Prop := ∀ a c σ Γ R F H, Sta a c σ Γ R F H → ∀ o Γ', m Γ = some (o, Γ') → ∀ Q : Option Int → Hp → Prop,
  (∀ F' H', Ex F F' → Sta a c σ Γ' R F' H' → Q o H') → to σ H Q
def oNo : MO := fun Γ => some (none, Γ)
def oX (m : MX) : MO := fun Γ => (m Γ).bind fun r => match r.1 with
  | .int i => some (some i, r.2)
  | _ => none
theorem evo_no : EvO tNoPart oNo := by
  intro a c σ Γ R F H s o Γ' e Q q
  cases e
  exact q F H (Ex.refl F) s
theorem evo_x {te : TE} {m : MX} (h : EvX te m) : EvO (tPart te) (oX m) := by
  intro a c σ Γ R F H s o Γ' e Q q
  obtain ⟨⟨d, Γ1⟩, e1, e⟩ := Option.bind_eq_some_iff.mp e
  dsimp only at e
  split at e
  · cases e
    refine h a c σ Γ R F H s _ _ e1 _ fun v F1 H1 x1 s1 d1 => ⟨_, d1.int_inv, q F1 H1 x1 s1⟩
  · cases e
def mSl (m : MR) (lo hi : MO) : MX := fun Γ => (m Γ).bind fun r => (lo r.2).bind fun l => (hi l.2).bind fun u => (r.1 u.2).bind fun x => match x with
  | .tuple ds => some (.tuple (cutD ds l.1 u.1), u.2)
  | _ => none
def lSl (m : MR) (lo hi : MO) : ML := fun Γ => (m Γ).bind fun r => (lo r.2).bind fun l => (hi l.2).bind fun u => (r.1 u.2).bind fun x => match x with
  | .list ds => some (cutD ds l.1 u.1, u.2)
  | _ => none
theorem cutD_all {ds : List PyData} {lo hi : Option Int} (h : HT.sIx ds.length 0 lo = 0 ∧ HT.sIx ds.length ds.length hi = ds.length) : cutD ds lo hi = ds := by
  unfold cutD
  rw [h.1, h.2]
  simp
theorem evx_sl {K : PySem.W.Frag} {te : TE} {tl tu : TO} {m : MR} {lo hi : MO} (h : EvR te m) (hl : EvO tl lo) (hu : EvO tu hi) : EvX (tSl (rSlA K) te tl tu) (mSl m lo hi) := by
  intro a c σ Γ R F H s d Γ' e Q q
  obtain ⟨⟨w1, Γ1⟩, e1, e⟩ := Option.bind_eq_some_iff.mp e
  obtain ⟨⟨l, Γ2⟩, e2, e⟩ := Option.bind_eq_some_iff.mp e
  obtain ⟨⟨u, Γ3⟩, e3, e⟩ := Option.bind_eq_some_iff.mp e
  obtain ⟨x, e4, e⟩ := Option.bind_eq_some_iff.mp e
  split at e
  · rename_i x' ds
    cases e
    refine h a c σ Γ R F H s w1 Γ1 e1 _ fun v F1 H1 x1 s1 l1 => hl a c σ Γ1 R F1 H1 s1 l Γ2 e2 _ fun F2 H2 x2 s2 => hu a c σ Γ2 R F2 H2 s2 u _ e3 _ fun F3 H3 x3 s3 => ?_
    have l' : Da F3 v (.tuple ds) := l1 _ _ _ _ (x2.trans x3) s3 e4
    cases l' with
    | tup hp a1 =>
      refine ⟨_, _, rfl, .inl (.inl (s3.ex _ _ hp)), fun z => ?_, fun _ p np => ?_⟩
      · rw [a1.length] at z
        rw [cutD_all z] at q
        exact q _ F3 H3 ((x1.trans x2).trans x3) s3 (.tup hp a1)
      · obtain ⟨s4, x4⟩ := s3.froz (o := .tup _) np
        exact q _ _ _ (((x1.trans x2).trans x3).trans x4) s4 (.tup upd_same ((a1.cut _ _).mono x4))
  · cases e
theorem evl_sl {K : PySem.W.Frag} {te : TE} {tl tu : TO} {m : MR} {lo hi : MO} (h : EvR te m) (hl : EvO tl lo) (hu : EvO tu hi) : EvL (tSl (rSlL K) te tl tu) (lSl m lo hi) := by
  intro a c σ Γ R F H s d Γ' e Q q
  obtain ⟨⟨w1, Γ1⟩, e1, e⟩ := Option.bind_eq_some_iff.mp e
  obtain ⟨⟨l, Γ2⟩, e2, e⟩ := Option.bind_eq_some_iff.mp e
  obtain ⟨⟨u, Γ3⟩, e3, e⟩ := Option.bind_eq_some_iff.mp e
  obtain ⟨x, e4, e⟩ := Option.bind_eq_some_iff.mp e
  split at e
  · cases e
    rename_i ds
    refine h a c σ Γ R F H s w1 Γ1 e1 _ fun v F1 H1 x1 s1 l1 => hl a c σ Γ1 R F1 H1 s1 l Γ2 e2 _ fun F2 H2 x2 s2 => hu a c σ Γ2 R F2 H2 s2 u _ e3 _ fun F3 H3 x3 s3 => ?_
    obtain ⟨p, vs, rfl, hp, a1⟩ := l1 _ _ _ _ (x2.trans x3) s3 e4
    exact ⟨_, _, rfl, .inl (.inl hp), fun p np => q _ _ _ _ ((x1.trans x2).trans x3) (s3.mine np) (a1.cut _ _)⟩
  · cases e
end MM


namespace MM
open PySem PySem.Spec PyProof.Rows L2
variable [Tb]

/-! ### tests -/
abbrev MT := Ga → Option (Bool × Ga)
def tX (m : MX) : MT := fun Γ => (m Γ).bind fun r => match r.1 with
  | .bool b => some (b, r.2)
  | _ => none
theorem tX_some {m : MX} {Γ Γ' : Ga} {b : Bool} (h : tX m Γ = some (b, Γ')) : m Γ = some (.bool b, Γ') := by
  obtain ⟨⟨d, Γ1⟩, e1, e⟩ := Option.bind_eq_some_iff.mp h
  dsimp only at e
  split at e
  · cases e
    exact e1
  · cases e
theorem evt_x {te : TE} {m : MX} (h : EvX te m) : EvT (tTest te) (tX m) := by
  intro a c σ Γ R F H s b Γ' e Q q
  exact h a c σ Γ R F H s _ _ (tX_some e) _ fun v F' H' x1 s1 d1 => ⟨b, d1.bl_inv, q F' H' x1 s1⟩
theorem evt_b {te : TE} {m : MX} (h : EvX te m) : EvT (tB te) (tX m) := evt_x h
def tAn (m n : MT) : MT := fun Γ => (m Γ).bind fun r => if r.1 = true then n r.2 else some (false, r.2)
def tOrr (m n : MT) : MT := fun Γ => (m Γ).bind fun r => if r.1 = true then some (true, r.2) else n r.2
def tNo (m : MT) : MT := fun Γ => (m Γ).bind fun r => some (!r.1, r.2)
def tTrue : MT := fun Γ => some (true, Γ)
theorem evt_yes : EvT tYes tTrue := by
  intro a c σ Γ R F H s b Γ' e Q q
  cases e
  exact q F H (Ex.refl F) s
theorem evt_and {t u : TT} {m n : MT} (h1 : EvT t m) (h2 : EvT u n) : EvT (tAnd t u) (tAn m n) := by
  intro a c σ Γ R F H s b Γ' e Q q
  obtain ⟨⟨b1, Γ1⟩, e1, e⟩ := Option.bind_eq_some_iff.mp e
  refine h1 a c σ Γ R F H s b1 Γ1 e1 _ fun F1 H1 x1 s1 => ?_
  dsimp only at e
  cases b1 with
  | true => exact iteT (h2 a c σ Γ1 R F1 H1 s1 b Γ' e Q fun F2 H2 x2 s2 => q F2 H2 (x1.trans x2) s2)
  | false =>
    cases e
    exact iteF (q F1 H1 x1 s1)
theorem evt_or {t u : TT} {m n : MT} (h1 : EvT t m) (h2 : EvT u n) : EvT (tOr t u) (tOrr m n) := by
  intro a c σ Γ R F H s b Γ' e Q q
  obtain ⟨⟨b1, Γ1⟩, e1, e⟩ := Option.bind_eq_some_iff.mp e
  refine h1 a c σ Γ R F H s b1 Γ1 e1 _ fun F1 H1 x1 s1 => ?_
  dsimp only at e
  cases b1 with
  | false => exact iteF (h2 a c σ Γ1 R F1 H1 s1 b Γ' e Q fun F2 H2 x2 s2 => q F2 H2 (x1.trans x2) s2)
  | true =>
    cases e
    exact iteT (q F1 H1 x1 s1)
theorem evt_not {t : TT} {m : MT} (h1 : EvT t m) : EvT (tNot t) (tNo m) := by
  intro a c σ Γ R F H s b Γ' e Q q
  obtain ⟨⟨b1, Γ1⟩, e1, e⟩ := Option.bind_eq_some_iff.mp e
  cases e
  exact h1 a c σ Γ R F H s b1 _ e1 _ fun F1 H1 x1 s1 => q F1 H1 x1 s1
def mIf (t : MT) (m n : MX) : MX := fun Γ => (t Γ).bind fun r => if r.1 = true then m r.2 else n r.2
theorem evx_if {t : TT} {ta tb : TE} {k : MT} {m n : MX} (h : EvT t k) (h1 : EvX ta m) (h2 : EvX tb n) : EvX (tIf t ta tb) (mIf k m n) := by
  intro a c σ Γ R F H s d Γ' e Q q
  obtain ⟨⟨b1, Γ1⟩, e1, e⟩ := Option.bind_eq_some_iff.mp e
  refine h a c σ Γ R F H s b1 Γ1 e1 _ fun F1 H1 x1 s1 => ?_
  dsimp only at e
  cases b1 with
  | true => exact iteT (h1 a c σ Γ1 R F1 H1 s1 d Γ' e Q fun v F2 H2 x2 s2 d2 => q v F2 H2 (x1.trans x2) s2 d2)
  | false => exact iteF (h2 a c σ Γ1 R F1 H1 s1 d Γ' e Q fun v F2 H2 x2 s2 d2 => q v F2 H2 (x1.trans x2) s2 d2)
def mAn (m n : MX) : MX := fun Γ => (tX m Γ).bind fun r => if r.1 = true then (tX n r.2).bind fun t => some (.bool t.1, t.2) else some (.bool false, r.2)
def mOrr (m n : MX) : MX := fun Γ => (tX m Γ).bind fun r => if r.1 = true then some (.bool true, r.2) else (tX n r.2).bind fun t => some (.bool t.1, t.2)
def mNo (m : MX) : MX := fun Γ => (tX m Γ).bind fun r => some (.bool (!r.1), r.2)
theorem evx_and {ta tb : TE} {m n : MX} (h1 : EvX ta m) (h2 : EvX tb n) : EvX (tAndV ta tb) (mAn m n) := by
  intro a c σ Γ R F H s d Γ' e Q q
  obtain ⟨⟨b1, Γ1⟩, e1, e⟩ := Option.bind_eq_some_iff.mp e
  refine h1 a c σ Γ R F H s _ _ (tX_some e1) _ fun v F1 H1 x1 s1 d1 => ⟨b1, d1.bl_inv, ?_⟩
  dsimp only at e
  cases b1 with
  | true =>
    obtain ⟨⟨b2, Γ2⟩, e2, e⟩ := Option.bind_eq_some_iff.mp (show ((tX n Γ1).bind fun t => some (PyData.bool t.1, t.2)) = some (d, Γ') from e)
    cases e
    exact iteT (h2 a c σ Γ1 R F1 H1 s1 _ _ (tX_some e2) Q fun v F2 H2 x2 s2 d2 => q v F2 H2 (x1.trans x2) s2 d2)
  | false =>
    cases e
    exact iteF (q _ F1 H1 x1 s1 (.bl false))
theorem evx_or {ta tb : TE} {m n : MX} (h1 : EvX ta m) (h2 : EvX tb n) : EvX (tOrV ta tb) (mOrr m n) := by
  intro a c σ Γ R F H s d Γ' e Q q
  obtain ⟨⟨b1, Γ1⟩, e1, e⟩ := Option.bind_eq_some_iff.mp e
  refine h1 a c σ Γ R F H s _ _ (tX_some e1) _ fun v F1 H1 x1 s1 d1 => ⟨b1, d1.bl_inv, ?_⟩
  dsimp only at e
  cases b1 with
  | false =>
    obtain ⟨⟨b2, Γ2⟩, e2, e⟩ := Option.bind_eq_some_iff.mp (show ((tX n Γ1).bind fun t => some (PyData.bool t.1, t.2)) = some (d, Γ') from e)
    cases e
    exact iteF (h2 a c σ Γ1 R F1 H1 s1 _ _ (tX_some e2) Q fun v F2 H2 x2 s2 d2 => q v F2 H2 (x1.trans x2) s2 d2)
  | true =>
    cases e
    exact iteT (q _ F1 H1 x1 s1 (.bl true))
theorem evx_not {ta : TE} {m : MX} (h1 : EvX ta m) : EvX (tNotV ta) (mNo m) := by
  intro a c σ Γ R F H s d Γ' e Q q
  obtain ⟨⟨b1, Γ1⟩, e1, e⟩ := Option.bind_eq_some_iff.mp e
  cases e
  exact h1 a c σ Γ R F H s _ _ (tX_some e1) _ fun v F1 H1 x1 s1 d1 => ⟨b1, d1.bl_inv, q _ F1 H1 x1 s1 (.bl _)⟩
/-- a < b < c -/
def mCh (f g : PyData → PyData → Option PyData) (m n o : MX) : MX := fun Γ => (m Γ).bind fun r => (n r.2).bind fun t => (f r.1 t.1).bind fun d => match d with
  | .bool true => (o t.2).bind fun u => (g t.1 u.1).bind fun d => some (d, u.2)
  | .bool false => some (.bool false, t.2)
  | _ => none

/-! ### in -/
def flatD : PyData → Bool
  | .none | .bool _ | .int _ | .str _ => true
  | _ => false
def fIn (neg : Bool) (x c : PyData) : Option PyData := (items c).bind fun ds => if flatD x = true ∧ ds.all flatD = true then some (.bool (if neg then !ds.any fun z => PyData.eqv z x else ds.any fun z => PyData.eqv z x)) else none
def mIn (f : PyData → PyData → Option PyData) (m : MX) (n : MR) : MX := fun Γ => (m Γ).bind fun r => (n r.2).bind fun t => (t.1 t.2).bind fun x => (f r.1 x).bind fun d => some (d, t.2)
theorem flat_of {F : Hp} {v : V} {d : PyData} (h : Da F v d) (e : flatD d = true) : flatV v = true := by
  cases h <;> first | rfl | cases e
theorem flat_all {F : Hp} : ∀ {vs : List V} {ds : List PyData}, DaAll F vs ds → ds.all flatD = true → vs.all flatV = true
  | _, _, .nil, _ => rfl
  | _, _, .cons h t, e => by
    rw [List.all_cons, Bool.and_eq_true] at e ⊢
    exact ⟨flat_of h e.1, flat_all t e.2⟩
theorem eqv_flat {F : Hp} {v w : V} {d e : PyData} (h : Da F v d) (k : Da F w e) (fd : flatD d = true) (fe : flatD e = true) : eqV v w = PyData.eqv d e := by
  cases h <;> cases k <;> first | (cases fd; done) | (cases fe; done) | rfl | (simp [eqV, PyData.eqv]; done) | (rename_i a b; cases a <;> cases b <;> rfl) | (rename_i a b; cases a <;> simp [eqV, PyData.eqv]; done) | (rename_i a b; cases b <;> simp [eqV, PyData.eqv]; done)
theorem inV_flat {F : Hp} {x : V} {dx : PyData} (hx : Da F x dx) (fx : flatD dx = true) : ∀ {vs : List V} {ds : List PyData}, DaAll F vs ds → ds.all flatD = true → inV x vs = ds.any fun z => PyData.eqv z dx
  | _, _, .nil, _ => rfl
  | _, _, .cons h t, e => by
    rw [List.all_cons, Bool.and_eq_true] at e
    have := inV_flat hx fx t e.2
    unfold inV at this ⊢
    rw [List.any_cons, List.any_cons, eqv_flat h hx e.1 fx, this]
theorem evx_in {K : PySem.W.Frag} {neg : Bool} {ta tb : TE} {m : MX} {n : MR} (ha : EvX ta m) (hb : EvR tb n) : EvX (tOp (rIn K neg) ta tb) (mIn (fIn neg) m n) := by
  intro a c σ Γ R F H s d Γ' e Q q
  obtain ⟨⟨d1, Γ1⟩, e1, e⟩ := Option.bind_eq_some_iff.mp e
  obtain ⟨⟨w2, Γ2⟩, e2, e⟩ := Option.bind_eq_some_iff.mp e
  obtain ⟨x, e3, e⟩ := Option.bind_eq_some_iff.mp e
  obtain ⟨d', e4, e⟩ := Option.bind_eq_some_iff.mp e
  cases e
  obtain ⟨ds, i, e5⟩ := Option.bind_eq_some_iff.mp e4
  split at e5
  · rename_i z
    cases e5
    refine ha a c σ Γ R F H s d1 Γ1 e1 _ fun v F1 H1 x1 s1 h1 => hb a c σ Γ1 R F1 H1 s1 w2 _ e2 _ fun u F2 H2 x2 s2 l2 => ?_
    obtain ⟨p, vs, rfl, a1, w⟩ := (l2 _ _ _ _ (Ex.refl _) s2 e3).items s2.ex i
    refine ⟨p, vs, rfl, sq_or s2.ex w, flat_of h1 z.1, flat_all a1 z.2, ?_⟩
    rw [inV_flat (h1.mono x2) z.1 a1 z.2]
    exact q _ F2 H2 (x1.trans x2) s2 (.bl _)
  · cases e5
/-- in a list of data of any depth -/
def fInD (neg : Bool) (x c : PyData) : Option PyData := match c with
  | .list ds => if SeqAt.shaped x = true ∧ SeqAt.shaped (.list ds) = true then some (.bool (if neg then !ds.any fun z => PyData.eqv z x else ds.any fun z => PyData.eqv z x)) else none
  | _ => none
theorem evx_inD {K : PySem.W.Frag} {ta tb : TE} {m : MX} {n : MR} (ha : EvX ta m) (hb : EvR tb n) : EvX (tOp (rInD K) ta tb) (mIn (fInD false) m n) := by
  intro a c σ Γ R F H s d Γ' e Q q
  obtain ⟨⟨d1, Γ1⟩, e1, e⟩ := Option.bind_eq_some_iff.mp e
  obtain ⟨⟨w2, Γ2⟩, e2, e⟩ := Option.bind_eq_some_iff.mp e
  obtain ⟨x, e3, e⟩ := Option.bind_eq_some_iff.mp e
  obtain ⟨d', e4, e⟩ := Option.bind_eq_some_iff.mp e
  cases e
  unfold fInD at e4
  split at e4
  · rename_i x' ds
    split at e4
    · rename_i z
      cases e4
      refine ha a c σ Γ R F H s d1 Γ1 e1 _ fun v F1 H1 x1 s1 h1 => hb a c σ Γ1 R F1 H1 s1 w2 _ e2 _ fun u F2 H2 x2 s2 l2 => ?_
      obtain ⟨p, vs, rfl, hp, a1⟩ := l2 _ _ _ _ (Ex.refl _) s2 e3
      exact ⟨d1, ds, (h1.mono x2).dp s2.ex, .lst (.inl (.inl hp)) (a1.dp s2.ex), z.1, z.2, q _ F2 H2 (x1.trans x2) s2 (.bl _)⟩
    · cases e4
  · cases e4
theorem evx_ninD {K : PySem.W.Frag} {ta tb : TE} {m : MX} {n : MR} (ha : EvX ta m) (hb : EvR tb n) : EvX (tOp (rNotInD K) ta tb) (mIn (fInD true) m n) := by
  intro a c σ Γ R F H s d Γ' e Q q
  obtain ⟨⟨d1, Γ1⟩, e1, e⟩ := Option.bind_eq_some_iff.mp e
  obtain ⟨⟨w2, Γ2⟩, e2, e⟩ := Option.bind_eq_some_iff.mp e
  obtain ⟨x, e3, e⟩ := Option.bind_eq_some_iff.mp e
  obtain ⟨d', e4, e⟩ := Option.bind_eq_some_iff.mp e
  cases e
  unfold fInD at e4
  split at e4
  · rename_i x' ds
    split at e4
    · rename_i z
      cases e4
      refine ha a c σ Γ R F H s d1 Γ1 e1 _ fun v F1 H1 x1 s1 h1 => hb a c σ Γ1 R F1 H1 s1 w2 _ e2 _ fun u F2 H2 x2 s2 l2 => ?_
      obtain ⟨p, vs, rfl, hp, a1⟩ := l2 _ _ _ _ (Ex.refl _) s2 e3
      exact ⟨d1, ds, (h1.mono x2).dp s2.ex, .lst (.inl (.inl hp)) (a1.dp s2.ex), z.1, z.2, q _ F2 H2 (x1.trans x2) s2 (.bl _)⟩
    · cases e4
  · cases e4
end MM


namespace MM
open PySem PySem.Spec PyProof.Rows L2
variable [Tb]

section
variable {a c : Addr} {F F' H H' : Hp} {σ : L2.St} {Γ : Ga} {R : Own}
/-- a slot is stored; what it owned before is let go -/
theorem Sta.set_dat (s : Sta a c σ Γ R F H) {i : Nat} (hi : i < Γ.length) {v : V} {d : PyData} (h : Da F v d) : Sta a c (σ.set i (some v)) (Γ.set i (.dat d)) R F H := by
  obtain ⟨O, r, w⟩ := s.st
  obtain ⟨x, o, O', e1, c1, p1, k1⟩ := r.at (List.getElem?_eq_getElem hi)
  obtain ⟨O2, r2, p2⟩ := k1 (some v) (.dat d) [] (.dat h)
  refine ⟨O2, r2, ?_⟩
  have w1 : Wd F (o ++ (O' ++ R)) H := w.perm (by rw [← List.append_assoc]; exact p1.append_right _)
  exact w1.drop.perm (p2.symm.append_right _)
theorem Sta.set_lst {p : Addr} {vs : List V} {ds : List PyData} (s : Sta a c σ Γ ((p, .lst vs) :: R) F H) {i : Nat} (hi : i < Γ.length) (h : DaAll F vs ds) : Sta a c (σ.set i (some (.ref p))) (Γ.set i (.lst ds)) R F H := by
  obtain ⟨O, r, w⟩ := s.st
  obtain ⟨x, o, O', e1, c1, p1, k1⟩ := r.at (List.getElem?_eq_getElem hi)
  obtain ⟨O2, r2, p2⟩ := k1 (some (.ref p)) (.lst ds) [(p, .lst vs)] (.lst h)
  refine ⟨O2, r2, ?_⟩
  have w1 : Wd F (o ++ (O' ++ (p, .lst vs) :: R)) H := w.perm (by rw [← List.append_assoc]; exact p1.append_right _)
  refine w1.drop.perm ?_
  refine List.perm_middle.trans ?_
  exact (p2.symm.append_right R)
/-- an owned list: where it stands, and that it may change -/
theorem Sta.get_lst (s : Sta a c σ Γ R F H) {i : Nat} {ds : List PyData} (e : Γ[i]? = some (.lst ds)) : ∃ p vs, σ[i]? = some (some (.ref p)) ∧ H p = some (.lst vs) ∧ DaAll F vs ds ∧
    ∀ vs' ds', DaAll F vs' ds' → Sta a c σ (Γ.set i (.lst ds')) R F (upd H p (.lst vs')) := by
  obtain ⟨O, r, w⟩ := s.st
  obtain ⟨x, o, O', e1, c1, p1, k1⟩ := r.at e
  cases c1 with
  | lst h =>
    rename_i p vs
    have w1 : Wd F ((p, .lst vs) :: (O' ++ R)) H := w.perm (by
      have := p1.append_right R
      simpa using this)
    refine ⟨p, vs, e1, (w1.own _ (List.mem_cons_self ..)).1, h, fun vs' ds' h' => ?_⟩
    obtain ⟨O2, r2, p2⟩ := k1 (some (.ref p)) (.lst ds') [(p, .lst vs')] (.lst h')
    have es : σ.set i (some (.ref p)) = σ := by
      apply List.ext_getElem?
      intro j
      by_cases q : i = j
      · subst q
        rw [List.getElem?_set_self (List.getElem?_eq_some_iff.mp e1).1, e1]
      · rw [List.getElem?_set_ne q]
    rw [es] at r2
    refine ⟨O2, r2, w1.put.perm ?_⟩
    have := p2.symm.append_right R
    simpa using this
/-- the source: where it stands, and that it may change -/
theorem Sta.get_src (s : Sta a c σ Γ R F H) {i : Nat} {g : Gn} (e : Γ[i]? = some (.src g)) : σ[i]? = some (some (.ref a)) ∧ ∃ O', Wd F (srcO a c g ++ (O' ++ R)) H ∧
    ∀ g' F' H', Ex F F' → Wd F' (srcO a c g' ++ (O' ++ R)) H' → Sta a c σ (Γ.set i (.src g')) R F' H' := by
  obtain ⟨O, r, w⟩ := s.st
  obtain ⟨x, o, O', e1, c1, p1, k1⟩ := r.at e
  cases c1 with
  | src =>
    refine ⟨e1, O', w.perm (by rw [← List.append_assoc]; exact p1.append_right _), fun g' F' H' xF w' => ?_⟩
    obtain ⟨O2, r2, p2⟩ := k1 (some (.ref a)) (.src g') (srcO a c g') .src
    have es : σ.set i (some (.ref a)) = σ := by
      apply List.ext_getElem?
      intro j
      by_cases q : i = j
      · subst q
        rw [List.getElem?_set_self (List.getElem?_eq_some_iff.mp e1).1, e1]
      · rw [List.getElem?_set_ne q]
    rw [es] at r2
    refine ⟨O2, r2.mono xF, w'.perm ?_⟩
    rw [← List.append_assoc]
    exact p2.symm.append_right _
end

/-! ### targets -/
abbrev MB := PyData → Ga → Option Ga
def EvG (g : TG) (gs : List Nat) (b : MB) : Prop := ∀ a c σ Γ R F H, Sta a c σ Γ R F H → ∀ x d Γ', Da F x d → b d Γ = some Γ' → ∀ Q : L2.St → Hp → Prop,
  (∀ σ', (∀ j, j ∉ gs → σ'[j]? = σ[j]?) → σ'.length = σ.length → Sta a c σ' Γ' R F H → Q σ' H) → g x σ H Q
def EvGs (g : TGs) (gs : List Nat) (b : List PyData → Ga → Option Ga) : Prop := ∀ a c σ Γ R F H, Sta a c σ Γ R F H → ∀ xs ds Γ', DaAll F xs ds → b ds Γ = some Γ' → ∀ Q : L2.St → Hp → Prop,
  (∀ σ', (∀ j, j ∉ gs → σ'[j]? = σ[j]?) → σ'.length = σ.length → Sta a c σ' Γ' R F H → Q σ' H) → g xs σ H Q
def bName (i : Nat) : MB := fun d Γ => if i < Γ.length then some (Γ.set i (.dat d)) else none
theorem evg_name (i : Nat) : EvG (gName i) [i] (bName i) := by
  intro a c σ Γ R F H s x d Γ' h e Q q
  unfold bName at e
  split at e
  · cases e
    refine q _ (fun j hj => ?_) (by simp) (s.set_dat (by assumption) h)
    exact List.getElem?_set_ne (fun z => hj (by simp [z]))
  · cases e
def bNil : List PyData → Ga → Option Ga := fun ds Γ => match ds with
  | [] => some Γ
  | _ => none
def bCons (b : MB) (bs : List PyData → Ga → Option Ga) : List PyData → Ga → Option Ga := fun ds Γ => match ds with
  | [] => none
  | d :: r => (b d Γ).bind (bs r)
theorem evgs_nil : EvGs gNil [] bNil := by
  intro a c σ Γ R F H s xs ds Γ' h e Q q
  unfold bNil at e
  split at e
  · cases e
    cases h
    exact ⟨rfl, q σ (fun _ _ => rfl) rfl s⟩
  · cases e
theorem evgs_cons {g : TG} {t : TGs} {gs hs : List Nat} {b : MB} {bs : List PyData → Ga → Option Ga} (h1 : EvG g gs b) (h2 : EvGs t hs bs) : EvGs (gCons g t) (gs ++ hs) (bCons b bs) := by
  intro a c σ Γ R F H s xs ds Γ' h e Q q
  unfold bCons at e
  split at e
  · cases e
  · obtain ⟨Γ1, e1, e2⟩ := Option.bind_eq_some_iff.mp e
    cases h with
    | cons hd ht =>
      refine ⟨_, _, rfl, h1 a c σ Γ R F H s _ _ Γ1 hd e1 _ fun σ1 k1 l1 s1 => h2 a c σ1 Γ1 R F H s1 _ _ Γ' ht e2 _ fun σ2 k2 l2 s2 => ?_⟩
      exact q σ2 (fun j hj => (k2 j fun z => hj (List.mem_append_right _ z)).trans (k1 j fun z => hj (List.mem_append_left _ z))) (l2.trans l1) s2
def bTup (n : Nat) (bs : List PyData → Ga → Option Ga) : MB := fun d Γ => match d with
  | .tuple ds => if ds.length = n then bs ds Γ else none
  | _ => none
theorem evg_tup {K : PySem.W.Frag} {n : Nat} {t : TGs} {gs : List Nat} {bs : List PyData → Ga → Option Ga} (h : EvGs t gs bs) : EvG (gTup K n t) gs (bTup n bs) := by
  intro a c σ Γ R F H s x d Γ' hd e Q q
  unfold bTup at e
  split at e
  · split at e
    · rename_i z
      cases hd with
      | tup hp ha => exact ⟨_, _, rfl, .inl (.inl (s.ex _ _ hp)), ha.length.trans z, h a c σ Γ R F H s _ _ Γ' ha e Q q⟩
    · cases e
  · cases e

/-! ### slots of a comprehension -/
def wpG (Γ : Ga) : List Nat → Ga
  | [] => Γ
  | v :: vs => (wpG Γ vs).set v .no
theorem wipe_get (σ : L2.St) (j : Nat) : ∀ vs : List Nat, (wipe σ vs)[j]? = if j ∈ vs ∧ j < σ.length then some none else σ[j]?
  | [] => by simp [wipe]
  | v :: vs => by
    unfold wipe
    by_cases e : v = j
    · subst e
      by_cases h : v < σ.length
      · rw [List.getElem?_set_self (by rw [wipe_length]; exact h), if_pos ⟨List.mem_cons_self .., h⟩]
      · rw [if_neg (fun z => h z.2), List.getElem?_eq_none (by rw [List.length_set, wipe_length]; omega), List.getElem?_eq_none (by omega)]
    · rw [List.getElem?_set_ne e, wipe_get σ j vs]
      by_cases h : j ∈ vs ∧ j < σ.length
      · rw [if_pos h, if_pos ⟨List.mem_cons_of_mem _ h.1, h.2⟩]
      · rw [if_neg h, if_neg (fun z => h ⟨(List.mem_cons.mp z.1).resolve_left (fun q => e q.symm), z.2⟩)]
theorem wipe_like {σ σ' : L2.St} {vs : List Nat} (hl : σ'.length = σ.length) (h : ∀ j, j ∉ vs → σ'[j]? = σ[j]?) : wipe σ' vs = wipe σ vs := by
  apply List.ext_getElem?
  intro j
  rw [wipe_get, wipe_get, hl]
  by_cases k : j ∈ vs
  · by_cases l : j < σ.length
    · rw [if_pos ⟨k, l⟩, if_pos ⟨k, l⟩]
    · rw [if_neg (fun z => l z.2), if_neg (fun z => l z.2), List.getElem?_eq_none (by omega), List.getElem?_eq_none (by omega)]
  · rw [if_neg (fun z => k z.1), if_neg (fun z => k z.1), h j k]
section
variable {a c : Addr} {F F' H H' : Hp} {σ : L2.St} {Γ : Ga} {R : Own}
theorem Sta.no (s : Sta a c σ Γ R F H) (i : Nat) (x : Option V) : Sta a c (σ.set i x) (Γ.set i .no) R F H := by
  by_cases hi : i < Γ.length
  · obtain ⟨O, r, w⟩ := s.st
    obtain ⟨y, o, O', e1, c1, p1, k1⟩ := r.at (List.getElem?_eq_getElem hi)
    obtain ⟨O2, r2, p2⟩ := k1 x .no [] .no
    refine ⟨O2, r2, ?_⟩
    have w1 : Wd F (o ++ (O' ++ R)) H := w.perm (by rw [← List.append_assoc]; exact p1.append_right _)
    exact w1.drop.perm (p2.symm.append_right _)
  · obtain ⟨O, r, w⟩ := s.st
    have hl := r.len
    rw [List.set_eq_of_length_le (by omega), List.set_eq_of_length_le (by omega)]
    exact s
theorem Sta.wipe (s : Sta a c σ Γ R F H) : ∀ vs : List Nat, Sta a c (wipe σ vs) (wpG Γ vs) R F H
  | [] => s
  | v :: vs => (s.wipe vs).no v none
theorem wpG_len (Γ : Ga) : ∀ vs : List Nat, (wpG Γ vs).length = Γ.length
  | [] => rfl
  | v :: vs => by unfold wpG; rw [List.length_set, wpG_len Γ vs]
theorem set_set_no (Γ : Ga) (i : Nat) (h : Γ[i]? = some .no ∨ Γ.length ≤ i) : Γ.set i .no = Γ := by
  rcases h with h | h
  · apply List.ext_getElem?
    intro j
    by_cases q : i = j
    · subst q
      rw [List.getElem?_set_self (List.getElem?_eq_some_iff.mp h).1, h]
    · rw [List.getElem?_set_ne q]
  · exact List.set_eq_of_length_le h
theorem wpG_get (Γ : Ga) (j : Nat) : ∀ vs : List Nat, (wpG Γ vs)[j]? = if j ∈ vs ∧ j < Γ.length then some .no else Γ[j]?
  | [] => by simp [wpG]
  | v :: vs => by
    unfold wpG
    by_cases e : v = j
    · subst e
      by_cases h : v < Γ.length
      · rw [List.getElem?_set_self (by rw [wpG_len]; exact h), if_pos ⟨List.mem_cons_self .., h⟩]
      · rw [if_neg (fun z => h z.2), List.getElem?_eq_none (by rw [List.length_set, wpG_len]; omega), List.getElem?_eq_none (by omega)]
    · rw [List.getElem?_set_ne e, wpG_get Γ j vs]
      by_cases h : j ∈ vs ∧ j < Γ.length
      · rw [if_pos h, if_pos ⟨List.mem_cons_of_mem _ h.1, h.2⟩]
      · rw [if_neg h, if_neg (fun z => h ⟨(List.mem_cons.mp z.1).resolve_left (fun q => e q.symm), z.2⟩)]
/-- what is wiped may stand anyhow -/
theorem Sta.back {σ1 : L2.St} (s : Sta a c σ1 Γ R F H) {vs : List Nat} (h1 : σ1 = L2.wipe σ vs) (h2 : ∀ j ∈ vs, Γ[j]? = some .no ∨ Γ.length ≤ j) : Sta a c σ Γ R F H := by
  subst h1
  induction vs with
  | nil => exact s
  | cons v vs ih =>
    refine ih (fun j hj => h2 j (List.mem_cons_of_mem _ hj)) ?_
    have := s.no v ((L2.wipe σ vs)[v]?.getD none)
    rw [set_set_no Γ v (h2 v (List.mem_cons_self ..))] at this
    have e : (L2.wipe σ (v :: vs)).set v ((L2.wipe σ vs)[v]?.getD none) = L2.wipe σ vs := by
      show ((L2.wipe σ vs).set v none).set v _ = _
      rw [List.set_set]
      apply List.ext_getElem?
      intro j
      by_cases q : v = j
      · subst q
        by_cases l : v < (L2.wipe σ vs).length
        · rw [List.getElem?_set_self l, List.getElem?_eq_getElem l]
          rfl
        · rw [List.getElem?_eq_none (by rw [List.length_set]; omega), List.getElem?_eq_none (by omega)]
      · rw [List.getElem?_set_ne q]
    rw [e] at this
    exact this
end
end MM


namespace MM
open PySem PySem.Spec PyProof.Rows L2
variable [Tb]

/-! ### what a loop walks -/
theorem Sta.know {a c : Addr} {F H : Hp} {σ : L2.St} {Γ : Ga} {R : Own} (s : Sta a c σ Γ R F H) {b : Addr} {xs : List V} (hb : H b = some (.tup xs)) : Sta a c σ Γ R (upd F b (.tup xs)) H ∧ Ex F (upd F b (.tup xs)) := by
  obtain ⟨O, r, w⟩ := s.st
  obtain ⟨w1, x1⟩ := w.know hb
  exact ⟨⟨O, r.mono x1, w1⟩, x1⟩
def Feeds (P : Hp → Hp → Prop) (J : It) (ds : List PyData) : Prop := ∀ F2 H2, P F2 H2 →
  (∀ i d, ds[i]? = some d → J.go i H2 ∧ ∀ x H3, J.yld i H2 x H3 → (H3 = H2 ∧ Da F2 x d) ∨ (∃ p xs, H2 p = none ∧ H3 = upd H2 p (.tup xs) ∧ Da (upd F2 p (.tup xs)) x d) ∨ (∃ p xs, H2 p = some (.tup xs) ∧ H3 = H2 ∧ Da (upd F2 p (.tup xs)) x d)) ∧ J.stop ds.length H2
abbrev MI := Ga → Option (List PyData × (Ga → Prop) × Ga)
def EvI (wi : TI) (sl : List Nat) (m : MI) : Prop := ∀ a c σ Γ R F H, Sta a c σ Γ R F H → ∀ ds kp Γ', m Γ = some (ds, kp, Γ') → ∀ Rj : It → Hp → Prop,
  (∀ J P F' H', Ex F F' → Sta a c σ Γ' R F' H' → Feeds P J ds → (∀ σ2 Γ2 R2 F2 H2, Ex F' F2 → Sta a c σ2 Γ2 R2 F2 H2 → (∀ j ∈ sl, σ2[j]? = σ[j]?) → kp Γ2 → P F2 H2) → Rj J H') → wi σ H Rj
def any_ : Ga → Prop := fun _ => True
def iLs (m : MX) : MI := fun Γ => (m Γ).bind fun r => match r.1 with
  | .list ds => some (ds, any_, r.2)
  | _ => none
def iTp (m : MX) : MI := fun Γ => (m Γ).bind fun r => match r.1 with
  | .tuple ds => some (ds, any_, r.2)
  | _ => none
def iLo (i : Nat) : MI := fun Γ => match Γ[i]? with
  | some (.lst ds) => some (ds, fun Γ2 => Γ2[i]? = some (.lst ds), Γ)
  | _ => none
def intsD (lo : Int) (n : Nat) : List PyData := (List.range n).map fun (k : Nat) => PyData.int (lo + (k : Int))
def iR1 (m : MX) : MI := fun Γ => (m Γ).bind fun r => match r.1 with
  | .int j => if j < 2 ^ 62 ∧ -(2 ^ 62) ≤ j then some (intsD 0 j.toNat, any_, r.2) else none
  | _ => none
def iR2 (m n : MX) : MI := fun Γ => (m Γ).bind fun r => (n r.2).bind fun t => match r.1, t.1 with
  | .int i, .int j => if (-(2 ^ 62) ≤ i ∧ i < 2 ^ 62) ∧ -(2 ^ 62) ≤ j ∧ j < 2 ^ 62 then some (intsD i (j - i).toNat, any_, t.2) else none
  | _, _ => none
theorem feeds_list {K : PySem.W.Frag} {P : Hp → Hp → Prop} {p : Addr} {ds : List PyData} (h : ∀ F2 H2, P F2 H2 → ∃ vs, H2 p = some (.lst vs) ∧ DaAll F2 vs ds) : Feeds P (Itl K p) ds := by
  intro F2 H2 w
  obtain ⟨vs, hp, ha⟩ := h F2 H2 w
  have hq : SqL K H2 p vs := .inl (.inl hp)
  refine ⟨fun i d e => ?_, ⟨vs, hq, Nat.le_of_eq ha.length⟩⟩
  obtain ⟨v, e1, d1⟩ := ha.get e
  refine ⟨⟨vs, v, hq, e1⟩, fun x H3 y => .inl ⟨y.1, ?_⟩⟩
  have := y.2 vs hq
  rw [e1] at this
  cases this
  exact d1
theorem feeds_tup {K : PySem.W.Frag} {P : Hp → Hp → Prop} {p : Addr} {ds : List PyData} (h : ∀ F2 H2, P F2 H2 → ∃ vs, H2 p = some (.tup vs) ∧ DaAll F2 vs ds) : Feeds P (Itt K p) ds := by
  intro F2 H2 w
  obtain ⟨vs, hp, ha⟩ := h F2 H2 w
  have hq : SqT K H2 p vs := .inl (.inl hp)
  refine ⟨fun i d e => ?_, ⟨vs, hq, Nat.le_of_eq ha.length⟩⟩
  obtain ⟨v, e1, d1⟩ := ha.get e
  refine ⟨⟨vs, v, hq, e1⟩, fun x H3 y => .inl ⟨y.1, ?_⟩⟩
  have := y.2 vs hq
  rw [e1] at this
  cases this
  exact d1
theorem evi_list {K : PySem.W.Frag} {tl : TE} {m : MX} (h : EvX tl m) : EvI (iList K tl) [] (iLs m) := by
  intro a c σ Γ R F H s ds kp Γ' e Rj q
  obtain ⟨⟨d, Γ1⟩, e1, e⟩ := Option.bind_eq_some_iff.mp e
  dsimp only at e
  split at e
  · cases e
    refine h a c σ Γ R F H s _ _ e1 _ fun v F' H' x1 s1 d1 => ?_
    cases d1 with
    | lst hp ha =>
      refine ⟨_, rfl, ⟨_, .inl (.inl (s1.ex _ _ hp))⟩, q _ (fun F2 H2 => Ex F' F2 ∧ Ex F2 H2) F' H' x1 s1 (feeds_list fun F2 H2 w => ⟨_, w.2 _ _ (w.1 _ _ hp), ha.mono w.1⟩) fun σ2 Γ2 R2 F2 H2 x2 s2 _ _ => ⟨x2, s2.ex⟩⟩
  · cases e
theorem evi_tup {K : PySem.W.Frag} {tl : TE} {m : MX} (h : EvX tl m) : EvI (iTup K tl) [] (iTp m) := by
  intro a c σ Γ R F H s ds kp Γ' e Rj q
  obtain ⟨⟨d, Γ1⟩, e1, e⟩ := Option.bind_eq_some_iff.mp e
  dsimp only at e
  split at e
  · cases e
    refine h a c σ Γ R F H s _ _ e1 _ fun v F' H' x1 s1 d1 => ?_
    cases d1 with
    | tup hp ha =>
      refine ⟨_, rfl, ⟨_, .inl (.inl (s1.ex _ _ hp))⟩, q _ (fun F2 H2 => Ex F' F2 ∧ Ex F2 H2) F' H' x1 s1 (feeds_tup fun F2 H2 w => ⟨_, w.2 _ _ (w.1 _ _ hp), ha.mono w.1⟩) fun σ2 Γ2 R2 F2 H2 x2 s2 _ _ => ⟨x2, s2.ex⟩⟩
  · cases e
theorem evi_lo {K : PySem.W.Frag} (i : Nat) : EvI (iList K (tVar i)) [i] (iLo i) := by
  intro a c σ Γ R F H s ds kp Γ' e Rj q
  unfold iLo at e
  split at e
  · rename_i ds' k
    cases e
    obtain ⟨p, vs, e1, hp, ha, _⟩ := s.get_lst k
    refine ⟨_, e1, p, rfl, ⟨vs, .inl (.inl hp)⟩, q _ (fun F2 H2 => ∃ vs, H2 p = some (.lst vs) ∧ DaAll F2 vs ds) F H (Ex.refl F) s (feeds_list fun F2 H2 w => w) fun σ2 Γ2 R2 F2 H2 x2 s2 hs hk => ?_⟩
    obtain ⟨p', vs', e2, hp', ha', _⟩ := s2.get_lst hk
    rw [hs i (by simp), e1] at e2
    cases e2
    exact ⟨vs', hp', ha'⟩
  · cases e
theorem feeds_rng {P : Hp → Hp → Prop} {lo : Int} {n : Nat} : Feeds P (Itr lo n) (intsD lo n) := by
  intro F2 H2 w
  refine ⟨fun i d e => ?_, ?_⟩
  · unfold intsD at e
    rw [List.getElem?_map] at e
    cases k : (List.range n)[i]? with
    | none => rw [k] at e; cases e
    | some j =>
      rw [k] at e
      obtain ⟨hi, hj⟩ := List.getElem?_eq_some_iff.mp k
      rw [List.getElem_range] at hj
      subst hj
      cases e
      refine ⟨show i < n by simpa using hi, fun x H3 y => .inl ⟨y.1, ?_⟩⟩
      rw [y.2]
      exact .int _
  · show n ≤ (intsD lo n).length
    simp [intsD]
theorem evi_r1 {te : TE} {m : MX} (h : EvX te m) : EvI (iRng1 (tCons te tNil)) [] (iR1 m) := by
  intro a c σ Γ R F H s ds kp Γ' e Rj q
  obtain ⟨⟨d, Γ1⟩, e1, e⟩ := Option.bind_eq_some_iff.mp e
  dsimp only at e
  split at e
  · split at e
    · rename_i z
      cases e
      refine h a c σ Γ R F H s _ _ e1 _ fun v F' H' x1 s1 d1 => ?_
      cases d1
      exact ⟨_, rfl, z.2, z.1, q _ (fun _ _ => True) F' H' x1 s1 feeds_rng fun _ _ _ _ _ _ _ _ _ => trivial⟩
    · cases e
  · cases e
theorem evi_r2 {te tf : TE} {m n : MX} (h : EvX te m) (k : EvX tf n) : EvI (iRng2 (tCons te (tCons tf tNil))) [] (iR2 m n) := by
  intro a c σ Γ R F H s ds kp Γ' e Rj q
  obtain ⟨⟨d, Γ1⟩, e1, e⟩ := Option.bind_eq_some_iff.mp e
  obtain ⟨⟨d2, Γ2⟩, e2, e⟩ := Option.bind_eq_some_iff.mp e
  dsimp only at e
  split at e
  · split at e
    · rename_i z
      cases e
      refine h a c σ Γ R F H s _ _ e1 _ fun v F' H' x1 s1 d1 => k a c σ _ R F' H' s1 _ _ e2 _ fun u F2 H2 x2 s2 d2 => ?_
      cases d1
      cases d2
      exact ⟨_, _, rfl, ⟨z.1.1, z.1.2, z.2.1, z.2.2⟩, q _ (fun _ _ => True) F2 H2 (x1.trans x2) s2 feeds_rng fun _ _ _ _ _ _ _ _ _ => trivial⟩
    · cases e
  · cases e

/-! ### list comprehensions -/
open Classical in
noncomputable def compGo (kp : Ga → Prop) (b : MB) (t : MT) (m : MX) (vs : List Nat) : List PyData → Ga → Option (List PyData × Ga)
  | [], Γ => if kp Γ then some ([], Γ) else none
  | d :: ds, Γ => if kp Γ then (b d Γ).bind fun Γ1 => (t Γ1).bind fun r => if r.1 = true then (m r.2).bind fun y => (compGo kp b t m vs ds (wpG y.2 vs)).bind fun z => some (y.1 :: z.1, z.2) else compGo kp b t m vs ds (wpG r.2 vs) else none
noncomputable def lLc (mi : MI) (b : MB) (t : MT) (m : MX) (vs : List Nat) : ML := fun Γ => (mi Γ).bind fun r => (fit r.1.length ()).bind fun _ => compGo r.2.1 b t m vs r.1 (wpG r.2.2 vs)
theorem compGo_wp {kp : Ga → Prop} {b : MB} {t : MT} {m : MX} {vs : List Nat} : ∀ {ds : List PyData} {Γ : Ga} {es : List PyData} {Γ' : Ga}, compGo kp b t m vs ds Γ = some (es, Γ') → (∀ j ∈ vs, Γ[j]? = some .no ∨ Γ.length ≤ j) → (∀ j ∈ vs, Γ'[j]? = some .no ∨ Γ'.length ≤ j)
  | [], Γ, es, Γ', e, h => by
    unfold compGo at e
    split at e
    · cases e
      exact h
    · cases e
  | d :: ds, Γ, es, Γ', e, h => by
    have wp : ∀ G : Ga, ∀ j ∈ vs, (wpG G vs)[j]? = some .no ∨ (wpG G vs).length ≤ j := fun G j hj => by
      rw [wpG_get, wpG_len]
      by_cases l : j < G.length
      · rw [if_pos ⟨hj, l⟩]
        exact .inl rfl
      · exact .inr (by omega)
    unfold compGo at e
    split at e
    · obtain ⟨Γ1, e1, e⟩ := Option.bind_eq_some_iff.mp e
      obtain ⟨⟨bb, Γ2⟩, e2, e⟩ := Option.bind_eq_some_iff.mp e
      dsimp only at e
      split at e
      · obtain ⟨⟨y, Γ3⟩, e3, e⟩ := Option.bind_eq_some_iff.mp e
        obtain ⟨⟨es', Γ4⟩, e4, e⟩ := Option.bind_eq_some_iff.mp e
        cases e
        exact compGo_wp e4 (wp _)
      · exact compGo_wp e (wp _)
    · cases e
theorem lc_at {wi : TI} {sl gs vs : List Nat} {g : TG} {b : MB} {tt : TT} {t : MT} {te : TE} {m : MX} (hsl : ∀ j ∈ sl, j ∉ vs) (hg : EvG g gs b) (hgs : ∀ j ∈ gs, j ∈ vs) (ht : EvT tt t) (he : EvX te m)
    {a c : Addr} {σ : L2.St} {R : Own} {F H : Hp} {ds : List PyData} {kp : Ga → Prop} {Γ1 Γ' : Ga} {res : List PyData} (hlim : ds.length ≤ lim) (e : compGo kp b t m vs ds (wpG Γ1 vs) = some (res, Γ'))
    (hi : ∀ Rj : It → Hp → Prop, (∀ J P F' H', Ex F F' → Sta a c σ Γ1 R F' H' → Feeds P J ds → (∀ σ2 Γ2 R2 F2 H2, Ex F' F2 → Sta a c σ2 Γ2 R2 F2 H2 → (∀ j ∈ sl, σ2[j]? = σ[j]?) → kp Γ2 → (∀ q ∈ R, q ∈ R2) → P F2 H2) → Rj J H') → wi σ H Rj)
    {Q : VK} (q : ∀ p vs F' H', Ex F F' → Sta a c σ Γ' ((p, .lst vs) :: R) F' H' → DaAll F' vs res → Q (.ref p) H') : tLc wi g tt te vs σ H Q := by
  refine hi _ fun J P F1 H1 x1 s1 fd hP D hD => ?_
  have wp : ∀ G : Ga, ∀ j ∈ vs, (wpG G vs)[j]? = some .no ∨ (wpG G vs).length ≤ j := fun G j hj => by
    rw [wpG_get, wpG_len]
    by_cases l : j < G.length
    · rw [if_pos ⟨hj, l⟩]
      exact .inl rfl
    · exact .inr (by omega)
  refine ⟨fun i n H => i ≤ ds.length ∧ n = ds.length - i ∧ ∃ Γi Fi accd accv rest, Ex F1 Fi ∧ Sta a c (L2.wipe σ vs) Γi ((D, .lst accv) :: R) Fi H ∧ DaAll Fi accv accd ∧ accd.length ≤ i ∧
    compGo kp b t m vs (ds.drop i) Γi = some (rest, Γ') ∧ accd ++ rest = res ∧ (∀ j ∈ vs, Γi[j]? = some .no ∨ Γi.length ≤ j), ⟨ds.length, Nat.zero_le _, rfl, wpG Γ1 vs, F1, [], [], res, Ex.refl _, (s1.wipe vs).mine hD, .nil, Nat.le_refl _, e, rfl, wp _⟩, ?_⟩
  rintro i n H2 ⟨hil, rfl, Γi, Fi, accd, accv, rest, xi, si, ai, al, ei, er, wi'⟩
  have hs : ∀ j ∈ sl, (L2.wipe σ vs)[j]? = σ[j]? := fun j hj => by
    rw [wipe_get, if_neg fun z => hsl j hj z.1]
  by_cases hlt : i < ds.length
  · rw [List.drop_eq_getElem_cons hlt] at ei
    unfold compGo at ei
    split at ei
    · rename_i hk
      obtain ⟨Γ2, e3, ei⟩ := Option.bind_eq_some_iff.mp ei
      obtain ⟨⟨bb, Γ3⟩, e4, ei⟩ := Option.bind_eq_some_iff.mp ei
      dsimp only at ei
      obtain ⟨go, yl⟩ := (fd Fi H2 (hP _ _ _ _ _ xi si hs hk (fun q m => List.mem_cons_of_mem _ m))).1 i ds[i] (List.getElem?_eq_getElem hlt)
      refine .inr ⟨go, fun H' => i + 1 ≤ ds.length ∧ ∃ Γi Fi accd accv rest, Ex F1 Fi ∧ Sta a c (L2.wipe σ vs) Γi ((D, .lst accv) :: R) Fi H' ∧ DaAll Fi accv accd ∧ accd.length ≤ i + 1 ∧
        compGo kp b t m vs (ds.drop (i + 1)) Γi = some (rest, Γ') ∧ accd ++ rest = res ∧ (∀ j ∈ vs, Γi[j]? = some .no ∨ Γi.length ≤ j), fun H' w => ⟨ds.length - (i + 1), by omega, w.1, rfl, w.2⟩, fun x H3 y => ?_⟩
      have base : ∃ F3, Ex Fi F3 ∧ Sta a c (L2.wipe σ vs) Γi ((D, .lst accv) :: R) F3 H3 ∧ Da F3 x ds[i] := by
        rcases yl x H3 y with ⟨rfl, hd⟩ | ⟨p, o, np, rfl, hd⟩ | ⟨p, xs, hp, rfl, hd⟩
        · exact ⟨Fi, Ex.refl _, si, hd⟩
        · obtain ⟨s3, x3⟩ := si.froz (o := .tup o) np
          exact ⟨_, x3, s3, hd⟩
        · obtain ⟨s3, x3⟩ := si.know hp
          exact ⟨_, x3, s3, hd⟩
      obtain ⟨F3, x3, s3, d3⟩ := base
      refine hg a c _ Γi _ F3 H3 s3 x ds[i] Γ2 d3 e3 _ fun σ2 k2 l2 s4 => ?_
      have wl : L2.wipe σ2 vs = L2.wipe σ vs := by
        refine wipe_like (by rw [l2, wipe_length]) fun j hj => ?_
        rw [k2 j fun z => hj (hgs j z), wipe_get, if_neg fun z => hj z.1]
      refine ⟨wl, ht a c σ2 Γ2 _ F3 H3 s4 bb Γ3 e4 _ fun F4 H4 x4 s5 => ?_⟩
      cases bb with
      | true =>
        obtain ⟨⟨yd, Γ4⟩, e5, ei⟩ := Option.bind_eq_some_iff.mp (show ((m Γ3).bind fun y => (compGo kp b t m vs (ds.drop (i + 1)) (wpG y.2 vs)).bind fun z => some (y.1 :: z.1, z.2)) = some (rest, Γ') from ei)
        obtain ⟨⟨rest', Γ5⟩, e6, ei⟩ := Option.bind_eq_some_iff.mp ei
        cases ei
        refine iteT (he a c σ2 Γ3 _ F4 H4 s5 yd Γ4 e5 _ fun yv F5 H5 x5 s6 d6 => ?_)
        have al2 : accv.length = accd.length := ai.length
        refine ⟨accv, s6.at_own, by rw [al2]; exact lim_lt (by omega), hlt, wpG Γ4 vs, F5, accd ++ [yd], accv ++ [yv], rest', ((xi.trans x3).trans x4).trans x5, ?_, ?_, by simp; omega, e6, by rw [← er]; simp, wp _⟩
        · have s7 := s6.wipe vs
          rw [wl] at s7
          obtain ⟨O, r, w⟩ := s7.st
          exact ⟨O, r, ((w.perm List.perm_middle).put).perm List.perm_middle.symm⟩
        · exact (ai.mono ((x3.trans x4).trans x5)).append (.one d6)
      | false =>
        have ei' : compGo kp b t m vs (ds.drop (i + 1)) (wpG Γ3 vs) = some (rest, Γ') := ei
        refine iteF ⟨hlt, wpG Γ3 vs, F4, accd, accv, rest, (xi.trans x3).trans x4, ?_, ai.mono (x3.trans x4), by omega, ei', er, wp _⟩
        have s7 := s5.wipe vs
        rw [wl] at s7
        exact s7
    · cases ei
  · have e0 : i = ds.length := by omega
    subst e0
    rw [List.drop_length] at ei
    unfold compGo at ei
    split at ei
    · rename_i hk
      cases ei
      refine .inl ⟨(fd Fi H2 (hP _ _ _ _ _ xi si hs hk (fun q m => List.mem_cons_of_mem _ m))).2, ?_⟩
      rw [List.append_nil] at er
      subst er
      exact q D accv Fi H2 (x1.trans xi) (si.back rfl wi') ai
    · cases ei
theorem evl_lc {wi : TI} {sl gs vs : List Nat} {mi : MI} {g : TG} {b : MB} {tt : TT} {t : MT} {te : TE} {m : MX} (hi : EvI wi sl mi) (hsl : ∀ j ∈ sl, j ∉ vs) (hg : EvG g gs b) (hgs : ∀ j ∈ gs, j ∈ vs) (ht : EvT tt t) (he : EvX te m) :
    EvL (tLc wi g tt te vs) (lLc mi b t m vs) := by
  intro a c σ Γ R F H s res Γ' e Q q
  obtain ⟨⟨ds, kp, Γ1⟩, e1, e⟩ := Option.bind_eq_some_iff.mp e
  obtain ⟨_, e2, e⟩ := Option.bind_eq_some_iff.mp e
  exact lc_at hsl hg hgs ht he (fit_some e2).1 e (fun Rj hR => hi a c σ Γ R F H s ds kp Γ1 e1 Rj fun J P F' H' x s' f h => hR J P F' H' x s' f fun σ2 Γ2 R2 F2 H2 x2 s2 hs hk _ => h σ2 Γ2 R2 F2 H2 x2 s2 hs hk) q
end MM


namespace MM
open PySem PySem.Spec PyProof.Rows L2
variable [Tb]

/-! ### statements -/
inductive Fl where
  | nx | bk | ct | rt (d : PyData)
abbrev MS := Ga → Option (Fl × Ga)
def Ok (a c : Addr) (R : Own) (F : Hp) (D : Ends) (fl : Fl) (Γ' : Ga) : Prop := match fl with
  | .nx => ∀ σ' F' H', Ex F F' → Sta a c σ' Γ' R F' H' → D.nx σ' H'
  | .bk => ∀ σ' F' H', Ex F F' → Sta a c σ' Γ' R F' H' → D.bk σ' H'
  | .ct => ∀ σ' F' H', Ex F F' → Sta a c σ' Γ' R F' H' → D.ct σ' H'
  | .rt d => ∀ v σ' F' H', Ex F F' → Sta a c σ' Γ' R F' H' → Da F' v d → D.rt v H'
theorem Ok.mono {a c : Addr} {R : Own} {F F1 : Hp} {D : Ends} {fl : Fl} {Γ' : Ga} (x : Ex F F1) (h : Ok a c R F D fl Γ') : Ok a c R F1 D fl Γ' := by
  cases fl with
  | nx => exact fun σ' F' H' y => h σ' F' H' (x.trans y)
  | bk => exact fun σ' F' H' y => h σ' F' H' (x.trans y)
  | ct => exact fun σ' F' H' y => h σ' F' H' (x.trans y)
  | rt d => exact fun v σ' F' H' y => h v σ' F' H' (x.trans y)
def EvS (ts : TS) (m : MS) : Prop := ∀ a c σ Γ R F H, Sta a c σ Γ R F H → ∀ fl Γ', m Γ = some (fl, Γ') → ∀ D : Ends, Ok a c R F D fl Γ' → ts D σ H
def sNext : MS := fun Γ => some (.nx, Γ)
def sSeq (m n : MS) : MS := fun Γ => (m Γ).bind fun r => match r.1 with
  | .nx => n r.2
  | f => some (f, r.2)
theorem evs_next : EvS tNext sNext := by
  intro a c σ Γ R F H s fl Γ' e D k
  cases e
  exact k σ F H (Ex.refl F) s
theorem evs_seq {t u : TS} {m n : MS} (h1 : EvS t m) (h2 : EvS u n) : EvS (tSeq t u) (sSeq m n) := by
  intro a c σ Γ R F H s fl Γ' e D k
  obtain ⟨⟨f1, Γ1⟩, e1, e⟩ := Option.bind_eq_some_iff.mp e
  refine h1 a c σ Γ R F H s f1 Γ1 e1 _ ?_
  cases f1 with
  | nx => exact fun σ' F' H' x s' => h2 a c σ' Γ1 R F' H' s' fl Γ' e D (k.mono x)
  | bk => cases e; exact k
  | ct => cases e; exact k
  | rt d => cases e; exact k
def sRet (m : MX) : MS := fun Γ => (m Γ).bind fun r => some (.rt r.1, r.2)
theorem evs_ret {te : TE} {m : MX} (h : EvX te m) : EvS (tRet te) (sRet m) := by
  intro a c σ Γ R F H s fl Γ' e D k
  obtain ⟨⟨d, Γ1⟩, e1, e⟩ := Option.bind_eq_some_iff.mp e
  cases e
  exact h a c σ Γ R F H s _ _ e1 _ fun v F' H' x s' d' => k v σ F' H' x s' d'
def sRetN : MS := fun Γ => some (.rt .none, Γ)
theorem evs_retN : EvS tRetN sRetN := by
  intro a c σ Γ R F H s fl Γ' e D k
  cases e
  exact k _ σ F H (Ex.refl F) s .non
def sDrop (m : MX) : MS := fun Γ => (m Γ).bind fun r => some (.nx, r.2)
theorem evs_drop {te : TE} {m : MX} (h : EvX te m) : EvS (tDrop te) (sDrop m) := by
  intro a c σ Γ R F H s fl Γ' e D k
  obtain ⟨⟨d, Γ1⟩, e1, e⟩ := Option.bind_eq_some_iff.mp e
  cases e
  exact h a c σ Γ R F H s _ _ e1 _ fun v F' H' x s' d' => k σ F' H' x s'
def sIf (t : MT) (m n : MS) : MS := fun Γ => (t Γ).bind fun r => if r.1 = true then m r.2 else n r.2
theorem evs_if {tt : TT} {t u : TS} {k : MT} {m n : MS} (h : EvT tt k) (h1 : EvS t m) (h2 : EvS u n) : EvS (tIfS tt t u) (sIf k m n) := by
  intro a c σ Γ R F H s fl Γ' e D kk
  obtain ⟨⟨b1, Γ1⟩, e1, e⟩ := Option.bind_eq_some_iff.mp e
  refine h a c σ Γ R F H s b1 Γ1 e1 _ fun F1 H1 x1 s1 => ?_
  dsimp only at e
  cases b1 with
  | true => exact iteT (h1 a c σ Γ1 R F1 H1 s1 fl Γ' e D (kk.mono x1))
  | false => exact iteF (h2 a c σ Γ1 R F1 H1 s1 fl Γ' e D (kk.mono x1))
def sAsg (m : MX) (b : MB) : MS := fun Γ => (m Γ).bind fun r => (b r.1 r.2).bind fun Γ' => some (.nx, Γ')
theorem evs_asg {te : TE} {m : MX} {g : TG} {gs : List Nat} {b : MB} (h : EvX te m) (hg : EvG g gs b) : EvS (tAsg te g) (sAsg m b) := by
  intro a c σ Γ R F H s fl Γ' e D k
  obtain ⟨⟨d, Γ1⟩, e1, e⟩ := Option.bind_eq_some_iff.mp e
  obtain ⟨Γ2, e2, e⟩ := Option.bind_eq_some_iff.mp e
  cases e
  exact h a c σ Γ R F H s _ _ e1 _ fun v F' H' x s' d' => hg a c σ Γ1 R F' H' s' v d _ d' e2 _ fun σ' _ _ s2 => k σ' F' H' x s2
/-- a new list of one's own -/
def sAsgL (i : Nat) (l : ML) : MS := fun Γ => (l Γ).bind fun r => if i < r.2.length then some (.nx, r.2.set i (.lst r.1)) else none
theorem evs_asgL {te : TE} {l : ML} (i : Nat) (h : EvL te l) : EvS (tAsg te (gName i)) (sAsgL i l) := by
  intro a c σ Γ R F H s fl Γ' e D k
  obtain ⟨⟨d, Γ1⟩, e1, e⟩ := Option.bind_eq_some_iff.mp e
  dsimp only at e
  split at e
  · rename_i hi
    cases e
    exact h a c σ Γ R F H s _ _ e1 _ fun p vs F' H' x s' d' => k _ F' H' x (s'.set_lst hi d')
  · cases e
/-- a, b = x, y -/
def sPar (i j : Nat) (l : ML) : MS := fun Γ => (l Γ).bind fun r => match r.1 with
  | [x, y] => if i < r.2.length ∧ j < r.2.length then some (.nx, (r.2.set i (.dat x)).set j (.dat y)) else none
  | _ => none
theorem evs_par {ta : TA} {l : ML} (i j : Nat) (h : EvA ta l) : EvS (tPar i j ta) (sPar i j l) := by
  intro a c σ Γ R F H s fl Γ' e D k
  obtain ⟨⟨ds, Γ1⟩, e1, e⟩ := Option.bind_eq_some_iff.mp e
  dsimp only at e
  split at e
  · split at e
    · rename_i hi
      cases e
      refine h a c σ Γ R F H s _ _ e1 _ fun vs F' H' x s' d' => ?_
      cases d' with
      | cons h1 t1 =>
        cases t1 with
        | cons h2 t2 =>
          cases t2
          exact ⟨_, _, rfl, k _ F' H' x ((s'.set_dat hi.1 h1).set_dat (by simpa using hi.2) h2)⟩
    · cases e
  · cases e
/-- for -/
def forGo (b : MB) (m : MS) : List PyData → Ga → Option (Fl × Ga)
  | [], Γ => some (.nx, Γ)
  | d :: ds, Γ => (b d Γ).bind fun Γ1 => (m Γ1).bind fun r => match r.1 with
    | .nx => forGo b m ds r.2
    | .ct => forGo b m ds r.2
    | .bk => some (.nx, r.2)
    | .rt d => some (.rt d, r.2)
def sFor (mi : MI) (b : MB) (m : MS) : MS := fun Γ => (mi Γ).bind fun r => forGo b m r.1 r.2.2
/-- the walk needs nothing of the slots -/
def Calm (m : MI) : Prop := ∀ Γ ds kp Γ', m Γ = some (ds, kp, Γ') → kp = any_
theorem calm_ls {m : MX} : Calm (iLs m) := by
  intro Γ ds kp Γ' e
  obtain ⟨⟨d, Γ1⟩, e1, e⟩ := Option.bind_eq_some_iff.mp e
  dsimp only at e
  split at e <;> cases e
  rfl
theorem calm_tp {m : MX} : Calm (iTp m) := by
  intro Γ ds kp Γ' e
  obtain ⟨⟨d, Γ1⟩, e1, e⟩ := Option.bind_eq_some_iff.mp e
  dsimp only at e
  split at e <;> cases e
  rfl
theorem calm_r1 {m : MX} : Calm (iR1 m) := by
  intro Γ ds kp Γ' e
  obtain ⟨⟨d, Γ1⟩, e1, e⟩ := Option.bind_eq_some_iff.mp e
  dsimp only at e
  split at e
  · split at e <;> cases e
    rfl
  · cases e
theorem calm_r2 {m n : MX} : Calm (iR2 m n) := by
  intro Γ ds kp Γ' e
  obtain ⟨⟨d, Γ1⟩, e1, e⟩ := Option.bind_eq_some_iff.mp e
  obtain ⟨⟨d2, Γ2⟩, e2, e⟩ := Option.bind_eq_some_iff.mp e
  dsimp only at e
  split at e
  · split at e <;> cases e
    rfl
  · cases e
theorem evs_for {wi : TI} {gs : List Nat} {mi : MI} {g : TG} {b : MB} {ts : TS} {m : MS} (hi : EvI wi [] mi) (hc : Calm mi) (hg : EvG g gs b) (hb : EvS ts m) : EvS (tFor wi g ts) (sFor mi b m) := by
  intro a c σ Γ R F H s fl Γ' e D k
  obtain ⟨⟨ds, kp, Γ1⟩, e1, e⟩ := Option.bind_eq_some_iff.mp e
  have hk := hc _ _ _ _ e1
  subst hk
  refine hi a c σ Γ R F H s ds any_ Γ1 e1 _ fun J P F1 H1 x1 s1 fd hP => ?_
  dsimp only at e
  refine ⟨fun i n σ H => i ≤ ds.length ∧ n = ds.length - i ∧ ∃ Γi Fi, Ex F1 Fi ∧ Sta a c σ Γi R Fi H ∧ forGo b m (ds.drop i) Γi = some (fl, Γ'), ⟨ds.length, Nat.zero_le _, rfl, Γ1, F1, Ex.refl _, s1, e⟩, ?_⟩
  rintro i n σ2 H2 ⟨hil, rfl, Γi, Fi, xi, si, ei⟩
  have kk : Ok a c R Fi D fl Γ' := k.mono (x1.trans xi)
  by_cases hlt : i < ds.length
  · rw [List.drop_eq_getElem_cons hlt] at ei
    unfold forGo at ei
    obtain ⟨Γ2, e3, ei⟩ := Option.bind_eq_some_iff.mp ei
    obtain ⟨⟨f2, Γ3⟩, e4, ei⟩ := Option.bind_eq_some_iff.mp ei
    obtain ⟨go, yl⟩ := (fd Fi H2 (hP _ _ _ _ _ xi si (fun j hj => nomatch hj) trivial)).1 i ds[i] (List.getElem?_eq_getElem hlt)
    refine .inr ⟨go, fun σ' H' => i + 1 ≤ ds.length ∧ ∃ Γi Fi, Ex F1 Fi ∧ Sta a c σ' Γi R Fi H' ∧ forGo b m (ds.drop (i + 1)) Γi = some (fl, Γ'), fun σ' H' w => ⟨ds.length - (i + 1), by omega, w.1, rfl, w.2⟩, fun x H3 y => ?_⟩
    have base : ∃ F3, Ex Fi F3 ∧ Sta a c σ2 Γi R F3 H3 ∧ Da F3 x ds[i] := by
      rcases yl x H3 y with ⟨rfl, hd⟩ | ⟨p, o, np, rfl, hd⟩ | ⟨p, xs, hp, rfl, hd⟩
      · exact ⟨Fi, Ex.refl _, si, hd⟩
      · obtain ⟨s3, x3⟩ := si.froz (o := .tup o) np
        exact ⟨_, x3, s3, hd⟩
      · obtain ⟨s3, x3⟩ := si.know hp
        exact ⟨_, x3, s3, hd⟩
    obtain ⟨F3, x3, s3, d3⟩ := base
    refine hg a c _ Γi _ F3 H3 s3 x ds[i] Γ2 d3 e3 _ fun σ3 _ _ s4 => ?_
    refine hb a c σ3 Γ2 R F3 H3 s4 f2 Γ3 e4 _ ?_
    cases f2 with
    | nx => exact fun σ' F' H' x' s' => ⟨hlt, Γ3, F', (xi.trans x3).trans x', s', ei⟩
    | ct => exact fun σ' F' H' x' s' => ⟨hlt, Γ3, F', (xi.trans x3).trans x', s', ei⟩
    | bk =>
      cases ei
      exact kk.mono x3
    | rt d =>
      cases ei
      exact kk.mono x3
  · have e0 : i = ds.length := by omega
    subst e0
    rw [List.drop_length] at ei
    unfold forGo at ei
    cases ei
    exact .inl ⟨(fd Fi H2 (hP _ _ _ _ _ xi si (fun j hj => nomatch hj) trivial)).2, kk σ2 Fi H2 (Ex.refl _) si⟩

/-! ### methods of a list of one's own -/
def isL (i : Nat) (Γ : Ga) : Option Unit := match Γ[i]? with
  | some (.lst _) => some ()
  | _ => none
theorem isL_some {i : Nat} {Γ : Ga} {u : Unit} (h : isL i Γ = some u) : ∃ ds, Γ[i]? = some (.lst ds) := by
  unfold isL at h
  split at h
  · exact ⟨_, by assumption⟩
  · cases h
def mApp (i : Nat) (m : MX) : MX := fun Γ => (isL i Γ).bind fun _ => (m Γ).bind fun r => match r.2[i]? with
  | some (.lst ds) => (fit ds.length ()).bind fun _ => some (.none, r.2.set i (.lst (ds ++ [r.1])))
  | _ => none
theorem evx_app {K : PySem.W.Frag} {i : Nat} {te : TE} {m : MX} (h : EvX te m) : EvX (tBM K "list" rAppend (tVar i) (tCons te tNil)) (mApp i m) := by
  intro a c σ Γ R F H s d Γ' e Q q
  obtain ⟨_, e0, e⟩ := Option.bind_eq_some_iff.mp e
  obtain ⟨⟨d1, Γ1⟩, e1, e⟩ := Option.bind_eq_some_iff.mp e
  obtain ⟨ds0, e0⟩ := isL_some e0
  obtain ⟨p, vs0, e2, hp0, _, _⟩ := s.get_lst e0
  dsimp only at e
  split at e
  · rename_i ds k
    obtain ⟨_, e3, e⟩ := Option.bind_eq_some_iff.mp e
    cases e
    have hl : ds.length ≤ lim := (fit_some e3).1
    refine ⟨.ref p, e2, .inl ⟨rfl, _, .inl (.inl hp0)⟩, h a c σ Γ R F H s _ _ e1 _ fun v F' H' x s' d' => ?_⟩
    obtain ⟨p', vs, e4, hp, ha, up⟩ := s'.get_lst k
    rw [e2] at e4
    cases e4
    exact ⟨p, vs, v, rfl, rfl, hp, by rw [ha.length]; exact lim_lt hl, q _ F' _ x (up _ _ (ha.append (.one d'))) .non⟩
  · cases e
def mPopAt (i : Nat) (m : MX) : MX := fun Γ => (isL i Γ).bind fun _ => (m Γ).bind fun r => match r.2[i]?, r.1 with
  | some (.lst ds), .int k => if -(2 ^ 63) ≤ k ∧ k < 2 ^ 63 then (seqIndex? k ds.length).bind fun j => (ds[j]?).bind fun d => some (d, r.2.set i (.lst (ds.eraseIdx j))) else none
  | _, _ => none
theorem evx_popAt {K : PySem.W.Frag} {i : Nat} {te : TE} {m : MX} (h : EvX te m) : EvX (tBM K "list" rPopAt (tVar i) (tCons te tNil)) (mPopAt i m) := by
  intro a c σ Γ R F H s d Γ' e Q q
  obtain ⟨_, e0, e⟩ := Option.bind_eq_some_iff.mp e
  obtain ⟨⟨d1, Γ1⟩, e1, e⟩ := Option.bind_eq_some_iff.mp e
  obtain ⟨ds0, e0⟩ := isL_some e0
  obtain ⟨p, vs0, e2, hp0, _, _⟩ := s.get_lst e0
  dsimp only at e
  split at e
  · rename_i ds k hk
    split at e
    · rename_i z
      obtain ⟨j, e3, e⟩ := Option.bind_eq_some_iff.mp e
      obtain ⟨d2, e5, e⟩ := Option.bind_eq_some_iff.mp e
      cases e
      refine ⟨.ref p, e2, .inl ⟨rfl, _, .inl (.inl hp0)⟩, h a c σ Γ R F H s _ _ e1 _ fun v F' H' x s' d' => ?_⟩
      obtain ⟨p', vs, e4, hp, ha, up⟩ := s'.get_lst hk
      rw [e2] at e4
      cases e4
      obtain ⟨y, h5, h6⟩ := ha.get e5
      exact ⟨p, vs, k, j, y, rfl, by rw [d'.int_inv], hp, z.1, z.2, by rw [ha.length]; exact e3, h5, q _ F' _ x (up _ _ (ha.erase j)) h6⟩
    · cases e
  · cases e
theorem DaAll.dropLast {F : Hp} {vs : List V} {ds : List PyData} (h : DaAll F vs ds) : DaAll F vs.dropLast ds.dropLast := by
  rw [List.dropLast_eq_take, List.dropLast_eq_take, h.length]
  exact h.take _
def mPop (i : Nat) : MX := fun Γ => match Γ[i]? with
  | some (.lst ds) => (ds[ds.length - 1]?).bind fun d => some (d, Γ.set i (.lst ds.dropLast))
  | _ => none
theorem evx_pop {K : PySem.W.Frag} {i : Nat} : EvX (tBM0 K "list" rPop (tVar i)) (mPop i) := by
  intro a c σ Γ R F H s d Γ' e Q q
  unfold mPop at e
  split at e
  · rename_i ds k
    obtain ⟨d2, e5, e⟩ := Option.bind_eq_some_iff.mp e
    cases e
    obtain ⟨p, vs, e4, hp, ha, up⟩ := s.get_lst k
    obtain ⟨y, h5, h6⟩ := ha.get e5
    exact ⟨.ref p, e4, .inl ⟨rfl, _, .inl (.inl hp)⟩, p, vs, y, rfl, rfl, hp, by rw [ha.length]; exact h5, q _ F _ (Ex.refl F) (up _ _ ha.dropLast) h6⟩
  · cases e

/-! ### calls of defs -/
def spP (n : Nat) (mf : List PyData → Option PyData) : Sp := fun vs H Q _ => vs.length = n ∧ ∃ F R ds d, DaAll F vs ds ∧ Wd F R H ∧ mf ds = some d ∧ ∀ v F' H', Ex F F' → Wd F' R H' → Da F' v d → Q v H'
def spS (n : Nat) (mf : Gn → List PyData → Option (PyData × Gn)) : Sp := fun vs H Q _ => ∃ a c vs' F R ds g d g', vs = .ref a :: vs' ∧ vs'.length = n ∧ DaAll F vs' ds ∧ Wd F (srcO a c g ++ R) H ∧ mf g ds = some (d, g') ∧
  ∀ v F' H', Ex F F' → Wd F' (srcO a c g' ++ R) H' → Da F' v d → Q v H'
def mCall (mf : List PyData → Option PyData) (l : ML) : MX := fun Γ => (l Γ).bind fun r => (mf r.1).bind fun d => some (d, r.2)
theorem evx_call {n : Nat} {mf : List PyData → Option PyData} {ta : TA} {l : ML} {E : XK} (h : EvA ta l) (hn : ∀ ds d, mf ds = some d → ds.length = n) : EvX (tCall (spP n mf) [] E ta) (mCall mf l) := by
  intro a c σ Γ R F H s d Γ' e Q q
  obtain ⟨⟨ds, Γ1⟩, e1, e⟩ := Option.bind_eq_some_iff.mp e
  obtain ⟨d2, e2, e⟩ := Option.bind_eq_some_iff.mp e
  cases e
  refine h a c σ Γ R F H s _ _ e1 _ fun vs F' H' x s' d' => ?_
  obtain ⟨O, r, w⟩ := s'.st
  rw [List.append_nil]
  exact ⟨d'.length.trans (hn _ _ e2), F', O ++ R, ds, d, d', w, e2, fun v F2 H2 x2 w2 h2 => q v F2 H2 (x.trans x2) ⟨O, r.mono x2, w2⟩ h2⟩
def mCallS (i : Nat) (mf : Gn → List PyData → Option (PyData × Gn)) (l : ML) : MX := fun Γ => (match Γ[i]? with
  | some (.src _) => some ()
  | _ => none).bind fun _ => (l Γ).bind fun r => match r.2[i]? with
  | some (.src g) => (mf g r.1).bind fun t => some (t.1, r.2.set i (.src t.2))
  | _ => none
theorem evx_callS {n i : Nat} {mf : Gn → List PyData → Option (PyData × Gn)} {ta : TA} {l : ML} {E : XK} (h : EvA ta l) (hn : ∀ g ds d, mf g ds = some d → ds.length = n) : EvX (tCall (spS n mf) [] E (tCons (tVar i) ta)) (mCallS i mf l) := by
  intro a c σ Γ R F H s d Γ' e Q q
  obtain ⟨_, e0, e⟩ := Option.bind_eq_some_iff.mp e
  obtain ⟨⟨ds, Γ1⟩, e1, e⟩ := Option.bind_eq_some_iff.mp e
  have k0 : ∃ g0, Γ[i]? = some (.src g0) := by
    split at e0
    · exact ⟨_, by assumption⟩
    · cases e0
  obtain ⟨g0, k0⟩ := k0
  dsimp only at e
  split at e
  · rename_i g k
    obtain ⟨⟨d2, g'⟩, e2, e⟩ := Option.bind_eq_some_iff.mp e
    cases e
    refine ⟨.ref a, (s.get_src k0).1, h a c σ Γ R F H s _ _ e1 _ fun vs F' H' x s' d' => ?_⟩
    obtain ⟨_, O', w, up⟩ := s'.get_src k
    rw [List.append_nil]
    exact ⟨a, c, vs, F', O' ++ R, ds, g, _, g', rfl, d'.length.trans (hn _ _ _ e2), d', w, e2, fun v F2 H2 x2 w2 h2 => q v F2 H2 (x.trans x2) (up g' F2 H2 x2 w2) h2⟩
  · cases e

/-! ### a def from its body -/
def start0 (N : Nat) (ds : List PyData) : Ga := ds.map Cell.dat ++ List.replicate (N - ds.length) .no
def startS (N : Nat) (g : Gn) (ds : List PyData) : Ga := .src g :: (ds.map Cell.dat ++ List.replicate (N - (ds.length + 1)) .no)
def runP (N n : Nat) (m : MS) (ds : List PyData) : Option PyData := if ds.length = n then (m (start0 N ds)).bind fun r => match r.1 with
  | .rt d => some d
  | .nx => some .none
  | _ => none else none
def runS (N n : Nat) (m : MS) (g : Gn) (ds : List PyData) : Option (PyData × Gn) := if ds.length = n then (m (startS N g ds)).bind fun (r : Fl × Ga) => match r.1, r.2[0]? with
  | Fl.rt d, some (Cell.src g') => some (d, g')
  | Fl.nx, some (Cell.src g') => some (PyData.none, g')
  | _, _ => none else none
theorem runP_n {N n : Nat} {m : MS} {ds : List PyData} {d : PyData} (h : runP N n m ds = some d) : ds.length = n := by
  unfold runP at h
  split at h
  · assumption
  · cases h
theorem runS_n {N n : Nat} {m : MS} {g : Gn} {ds : List PyData} {d : PyData × Gn} (h : runS N n m g ds = some d) : ds.length = n := by
  unfold runS at h
  split at h
  · assumption
  · cases h
theorem rep_no {a c : Addr} {F : Hp} : ∀ k : Nat, Rep a c F (List.replicate k none) (List.replicate k .no) []
  | 0 => .nil
  | k + 1 => .cons .no (rep_no k)
theorem rep_dat {a c : Addr} {F : Hp} {k : Nat} : ∀ {vs : List V} {ds : List PyData}, DaAll F vs ds → Rep a c F (vs.map some ++ List.replicate k none) (ds.map Cell.dat ++ List.replicate k .no) []
  | _, _, .nil => rep_no k
  | _, _, .cons h t => .cons (.dat h) (rep_dat t)
theorem read_p {N n : Nat} {Ns : List Str} {m : MS} {t : TS} {vs : List V} {H : Hp} {Q : VK} {E : XK} (h : EvS t m) (hN : Ns.length = N) (sp : spP n (runP N n m) vs H Q E) : t { nx := fun _ H' => Q .non H', rt := Q } (L2.start Ns vs) H := by
  obtain ⟨hn, F, R, ds, d, hd, w, e, q⟩ := sp
  unfold runP at e
  split at e
  · obtain ⟨⟨fl, Γ'⟩, e1, e⟩ := Option.bind_eq_some_iff.mp e
    refine h 0 0 _ (start0 N ds) R F H ⟨[], ?_, w⟩ fl Γ' e1 _ ?_
    · unfold L2.start start0
      rw [hN, hd.length]
      exact rep_dat hd
    · cases fl with
      | nx =>
        cases e
        intro σ' F' H' x s'
        obtain ⟨O, r, w'⟩ := s'.st
        exact q _ F' H' x w'.drop .non
      | bk => cases e
      | ct => cases e
      | rt d' =>
        cases e
        intro v σ' F' H' x s' h'
        obtain ⟨O, r, w'⟩ := s'.st
        exact q _ F' H' x w'.drop h'
  · cases e
theorem read_s {N n : Nat} {Ns : List Str} {m : MS} {t : TS} {vs : List V} {H : Hp} {Q : VK} {E : XK} (h : EvS t m) (hN : Ns.length = N) (sp : spS n (runS N n m) vs H Q E) : t { nx := fun _ H' => Q .non H', rt := Q } (L2.start Ns vs) H := by
  obtain ⟨a, c, vs', F, R, ds, g, d, g', rfl, hn, hd, w, e, q⟩ := sp
  unfold runS at e
  split at e
  · obtain ⟨⟨fl, Γ'⟩, e1, e⟩ := Option.bind_eq_some_iff.mp e
    refine h a c _ (startS N g ds) R F H ⟨srcO a c g ++ [], ?_, by rw [List.append_nil]; exact w⟩ fl Γ' e1 _ ?_
    · unfold L2.start startS
      rw [hN, List.length_cons, hd.length]
      exact .cons .src (rep_dat hd)
    · dsimp only at e
      split at e
      · rename_i d' g2 k
        cases e
        intro v σ' F' H' x s' h'
        obtain ⟨_, O', w', _⟩ := s'.get_src k
        refine q _ F' H' x ?_ h'
        have w2 : Wd F' (O' ++ (srcO a c g' ++ R)) H' := w'.perm (by
          rw [← List.append_assoc, ← List.append_assoc]
          exact List.perm_append_comm.append_right R)
        exact w2.drop
      · rename_i g2 k
        cases e
        intro σ' F' H' x s'
        obtain ⟨_, O', w', _⟩ := s'.get_src k
        refine q _ F' H' x ?_ .non
        have w2 : Wd F' (O' ++ (srcO a c g' ++ R)) H' := w'.perm (by
          rw [← List.append_assoc, ← List.append_assoc]
          exact List.perm_append_comm.append_right R)
        exact w2.drop
      · cases e
  · cases e
end MM


namespace MM
open PySem PySem.Spec PyProof.Rows L2
variable [Tb]

/-! ### syntax and what it does, as one -/
def PX (X : Cx) (e : Expr) (m : MX) : Prop := ∃ t, PE X e t ∧ EvX t m
def PL (X : Cx) (e : Expr) (m : ML) : Prop := ∃ t, PE X e t ∧ EvL t m
def PR (X : Cx) (e : Expr) (m : MR) : Prop := ∃ t, PE X e t ∧ EvR t m
def PAx (X : Cx) (es : List Expr) (m : ML) : Prop := ∃ t, PA X es t ∧ EvA t m
def PTx (X : Cx) (e : Expr) (m : MT) : Prop := ∃ t, PT X e t ∧ EvT t m
def PIx (X : Cx) (tg e : Expr) (sl : List Nat) (m : MI) : Prop := ∃ t, PI X tg e t ∧ EvI t sl m
def PGx (X : Cx) (e : Expr) (gs : List Nat) (b : MB) : Prop := ∃ t, PG X e t ∧ EvG t gs b
def PS1 (X : Cx) (s : Stmt) (m : MS) : Prop := ∃ t, PS X s t ∧ EvS t m
def PSx (X : Cx) (s : List Stmt) (m : MS) : Prop := ∃ t, PSs X s t ∧ EvS t m
def fzL (l : ML) : MX := fun Γ => (l Γ).map fun (ds, Γ') => (.list ds, Γ')
section
variable {X : Cx} {e e1 e2 e3 : Expr} {es : List Expr} {m n o : MX} {l k : ML} {rr : MR} {pos : Pos}
theorem PX.r (h : PX X e m) : PR X e (rX m) := let ⟨t, a, b⟩ := h; ⟨t, a, b.r⟩
theorem PL.x (h : PL X e l) : PX X e (fzL l) := let ⟨t, a, b⟩ := h; ⟨t, a, b.x⟩
theorem PL.r (h : PL X e l) : PR X e (rX (fzL l)) := h.x.r
theorem x_var (i : Nat) {x : Str} {pos : Pos} (hN : X.N[i]? = some x := by rfl) (hv : Vis X.env.scope x := by first | exact Or.inl rfl | exact Or.inr (Or.inl rfl) | exact Or.inr (Or.inr rfl)) (hd : (x == ("__debug__" : Str)) = false := by decide)
    (hcd : (x == ("__classdict__" : Str)) = false := by decide) : PX X (.Name x pos) (mVar i) := ⟨_, pe_var hN hv hd hcd, evx_var i⟩
theorem r_var (i : Nat) {x : Str} {pos : Pos} (hN : X.N[i]? = some x := by rfl) (hv : Vis X.env.scope x := by first | exact Or.inl rfl | exact Or.inr (Or.inl rfl) | exact Or.inr (Or.inr rfl)) (hd : (x == ("__debug__" : Str)) = false := by decide)
    (hcd : (x == ("__classdict__" : Str)) = false := by decide) : PR X (.Name x pos) (rVar i) := ⟨_, pe_var hN hv hd hcd, evr_var i⟩
theorem x_int {i : Int} {j : Nat} : PX X (.Constant (.int i) j pos) (mC (.int i)) := ⟨_, pe_int, evx_c fun _ => .int i⟩
theorem x_bl {b : Bool} {j : Nat} : PX X (.Constant (.bool b) j pos) (mC (.bool b)) := ⟨_, pe_bl, evx_c fun _ => .bl b⟩
theorem x_non {j : Nat} : PX X (.Constant .none j pos) (mC .none) := ⟨_, pe_non, evx_c fun _ => .non⟩
theorem x_str {s : Str} {j : Nat} : PX X (.Constant (.str s) j pos) (mC (.str s)) := ⟨_, pe_str, evx_c fun _ => .str s⟩
theorem a_nil : PAx X [] lNil := ⟨_, pa_nil, eva_nil⟩
theorem a_cons (h : PX X e m) (t : PAx X es l) (hs : starEach (e :: es) X.env = (false, eval e X.env) :: starEach es X.env := by rfl) : PAx X (e :: es) (lCons m l) :=
  let ⟨_, a, b⟩ := h; let ⟨_, c, d⟩ := t; ⟨_, pa_cons a c hs, eva_cons b d⟩
theorem x_tup {x1} (h : PAx X es l) : PX X (.Tuple es x1 pos) (mTup l) := let ⟨_, a, b⟩ := h; ⟨_, pe_tup a, evx_tup b⟩
theorem l_lst (h : PAx X es l) : PL X (.List es pos) (lLst l) := let ⟨_, a, b⟩ := h; ⟨_, pe_lst a, evl_lst b⟩
theorem x_op {op : Operator} {r : R2} {f : PyData → PyData → Option PyData} (ho : OpR X (binaryOp op) r) (hf : OpD r f) (h1 : PX X e1 m) (h2 : PX X e2 n) : PX X (.BinOp e1 op e2 pos) (mOp f m n) :=
  let ⟨_, a, b⟩ := h1; let ⟨_, c, d⟩ := h2; ⟨_, pe_op ho a c, evx_op hf b d⟩
theorem x_add (h1 : PX X e1 m) (h2 : PX X e2 n) : PX X (.BinOp e1 .Add e2 pos) (mOp fAdd m n) := x_op op_add opd_add h1 h2
theorem x_sub (h1 : PX X e1 m) (h2 : PX X e2 n) : PX X (.BinOp e1 .Sub e2 pos) (mOp fSub m n) := x_op op_sub opd_sub h1 h2
theorem x_cat (h1 : PX X e1 m) (h2 : PX X e2 n) : PX X (.BinOp e1 .Add e2 pos) (mOp fCat m n) := x_op op_catA opd_cat h1 h2
theorem l_cat {s : MR} (h1 : PR X e1 rr) (h2 : PR X e2 s) : PL X (.BinOp e1 .Add e2 pos) (lCat rr s) := let ⟨_, a, b⟩ := h1; let ⟨_, c, d⟩ := h2; ⟨_, pe_op op_cat a c, evl_cat b d⟩
theorem x_cmp {op : CmpOp} {r : R2} {f : PyData → PyData → Option PyData} (ho : OpR X (compareOp op) r) (hf : OpD r f) (h1 : PX X e1 m) (h2 : PX X e2 n) (hm : behindInMarks op e2 = false := by first | exact nomark _ | rfl) : PX X (.Compare e1 [op] [e2] pos) (mOp f m n) :=
  let ⟨_, a, b⟩ := h1; let ⟨_, c, d⟩ := h2; ⟨_, pe_cmpR ho a c hm, evx_op hf b d⟩
theorem t_cmp {op : CmpOp} {r : R2} {f : PyData → PyData → Option PyData} (ho : OpR X (compareOp op) r) (hf : OpD r f) (h1 : PX X e1 m) (h2 : PX X e2 n) (hm : behindInMarks op e2 = false := by first | exact nomark _ | rfl) : PTx X (.Compare e1 [op] [e2] pos) (tX (mOp f m n)) :=
  let ⟨_, a, b⟩ := h1; let ⟨_, c, d⟩ := h2; ⟨_, pt_cmpR ho a c hm, evt_x (evx_op hf b d)⟩
theorem x_eq (hu : X.A.units + 64 < cLine) (h1 : PX X e1 m) (h2 : PX X e2 n) (hm : behindInMarks .Eq e2 = false := by first | exact nomark _ | rfl) : PX X (.Compare e1 [.Eq] [e2] pos) (mOp (fEq false) m n) := x_cmp (op_eqD hu) opd_eq h1 h2 hm
theorem x_ne (hu : X.A.units + 64 < cLine) (h1 : PX X e1 m) (h2 : PX X e2 n) (hm : behindInMarks .NotEq e2 = false := by first | exact nomark _ | rfl) : PX X (.Compare e1 [.NotEq] [e2] pos) (mOp (fEq true) m n) := x_cmp (op_neD hu) opd_ne h1 h2 hm
theorem t_eq (hu : X.A.units + 64 < cLine) (h1 : PX X e1 m) (h2 : PX X e2 n) (hm : behindInMarks .Eq e2 = false := by first | exact nomark _ | rfl) : PTx X (.Compare e1 [.Eq] [e2] pos) (tX (mOp (fEq false) m n)) := t_cmp (op_eqD hu) opd_eq h1 h2 hm
theorem t_ne (hu : X.A.units + 64 < cLine) (h1 : PX X e1 m) (h2 : PX X e2 n) (hm : behindInMarks .NotEq e2 = false := by first | exact nomark _ | rfl) : PTx X (.Compare e1 [.NotEq] [e2] pos) (tX (mOp (fEq true) m n)) := t_cmp (op_neD hu) opd_ne h1 h2 hm
def fLt := fInt fun i j => .bool (decide (i < j))
def fLe := fInt fun i j => .bool (decide (i ≤ j))
def fGt := fInt fun i j => .bool (decide (j < i))
def fGe := fInt fun i j => .bool (decide (j ≤ i))
theorem opd_lt : OpD (rI0 fun i j => .bl (decide (i < j))) fLt := opd_int fun _ _ _ => .bl _
theorem opd_le : OpD (rI0 fun i j => .bl (decide (i ≤ j))) fLe := opd_int fun _ _ _ => .bl _
theorem opd_gt : OpD (rI0 fun i j => .bl (decide (j < i))) fGt := opd_int fun _ _ _ => .bl _
theorem opd_ge : OpD (rI0 fun i j => .bl (decide (j ≤ i))) fGe := opd_int fun _ _ _ => .bl _
theorem x_lt (h1 : PX X e1 m) (h2 : PX X e2 n) (hm : behindInMarks .Lt e2 = false := by first | exact nomark _ | rfl) : PX X (.Compare e1 [.Lt] [e2] pos) (mOp fLt m n) := x_cmp op_lt opd_lt h1 h2 hm
theorem x_le (h1 : PX X e1 m) (h2 : PX X e2 n) (hm : behindInMarks .LtE e2 = false := by first | exact nomark _ | rfl) : PX X (.Compare e1 [.LtE] [e2] pos) (mOp fLe m n) := x_cmp op_le opd_le h1 h2 hm
theorem x_gt (h1 : PX X e1 m) (h2 : PX X e2 n) (hm : behindInMarks .Gt e2 = false := by first | exact nomark _ | rfl) : PX X (.Compare e1 [.Gt] [e2] pos) (mOp fGt m n) := x_cmp op_gt opd_gt h1 h2 hm
theorem x_ge (h1 : PX X e1 m) (h2 : PX X e2 n) (hm : behindInMarks .GtE e2 = false := by first | exact nomark _ | rfl) : PX X (.Compare e1 [.GtE] [e2] pos) (mOp fGe m n) := x_cmp op_ge opd_ge h1 h2 hm
theorem t_lt (h1 : PX X e1 m) (h2 : PX X e2 n) (hm : behindInMarks .Lt e2 = false := by first | exact nomark _ | rfl) : PTx X (.Compare e1 [.Lt] [e2] pos) (tX (mOp fLt m n)) := t_cmp op_lt opd_lt h1 h2 hm
theorem t_le (h1 : PX X e1 m) (h2 : PX X e2 n) (hm : behindInMarks .LtE e2 = false := by first | exact nomark _ | rfl) : PTx X (.Compare e1 [.LtE] [e2] pos) (tX (mOp fLe m n)) := t_cmp op_le opd_le h1 h2 hm
theorem t_gt (h1 : PX X e1 m) (h2 : PX X e2 n) (hm : behindInMarks .Gt e2 = false := by first | exact nomark _ | rfl) : PTx X (.Compare e1 [.Gt] [e2] pos) (tX (mOp fGt m n)) := t_cmp op_gt opd_gt h1 h2 hm
theorem t_ge (h1 : PX X e1 m) (h2 : PX X e2 n) (hm : behindInMarks .GtE e2 = false := by first | exact nomark _ | rfl) : PTx X (.Compare e1 [.GtE] [e2] pos) (tX (mOp fGe m n)) := t_cmp op_ge opd_ge h1 h2 hm
theorem x_in (h1 : PX X e1 m) (h2 : PR X e2 rr) (hm : behindInMarks .In e2 = false := by first | exact nobehind _ (by decide) (by decide) | rfl) : PX X (.Compare e1 [.In] [e2] pos) (mIn (fIn false) m rr) :=
  let ⟨_, a, b⟩ := h1; let ⟨_, c, d⟩ := h2; ⟨_, pe_cmpR op_in_seq a c hm, evx_in b d⟩
theorem x_nin (h1 : PX X e1 m) (h2 : PR X e2 rr) (hm : behindInMarks .NotIn e2 = false := by first | exact nobehind _ (by decide) (by decide) | rfl) : PX X (.Compare e1 [.NotIn] [e2] pos) (mIn (fIn true) m rr) :=
  let ⟨_, a, b⟩ := h1; let ⟨_, c, d⟩ := h2; ⟨_, pe_cmpR op_notIn_seq a c hm, evx_in b d⟩
theorem t_in (h1 : PX X e1 m) (h2 : PR X e2 rr) (hm : behindInMarks .In e2 = false := by first | exact nobehind _ (by decide) (by decide) | rfl) : PTx X (.Compare e1 [.In] [e2] pos) (tX (mIn (fIn false) m rr)) :=
  let ⟨_, a, b⟩ := h1; let ⟨_, c, d⟩ := h2; ⟨_, pt_cmpR op_in_seq a c hm, evt_x (evx_in b d)⟩
theorem t_nin (h1 : PX X e1 m) (h2 : PR X e2 rr) (hm : behindInMarks .NotIn e2 = false := by first | exact nobehind _ (by decide) (by decide) | rfl) : PTx X (.Compare e1 [.NotIn] [e2] pos) (tX (mIn (fIn true) m rr)) :=
  let ⟨_, a, b⟩ := h1; let ⟨_, c, d⟩ := h2; ⟨_, pt_cmpR op_notIn_seq a c hm, evt_x (evx_in b d)⟩
theorem x_ix (h1 : PR X e1 rr) (h2 : PX X e2 m) (hp : PlainIx e2 := by exact fun _ _ => rfl) : PX X (.Subscript e1 e2 pos) (mIx rr m) :=
  let ⟨_, a, b⟩ := h1; let ⟨_, c, d⟩ := h2; ⟨_, pe_ix ix_seq a c hp, evx_ix b d⟩
theorem x_len (hg : Gl X "len") (hm : X.mg "len" = none) (h : PR X e rr) (he : starEach [e] X.env = [(false, eval e X.env)] := by rfl) {p : Pos} : PX X (.Call (.Name "len" p) [e] [] pos) (m1 fLen rr) :=
  let ⟨_, a, b⟩ := h; ⟨_, pe_callB call_len_seq hg hm PySem.boot_len (pa_cons a pa_nil he) (by decide) (by decide) he rfl, evx_1 callv_len b⟩
theorem l_list (hg : Gl X "list") (hm : X.mg "list" = none) (h : PR X e rr) (he : starEach [e] X.env = [(false, eval e X.env)] := by rfl) {p : Pos} : PL X (.Call (.Name "list" p) [e] [] pos) (l1 items rr) :=
  let ⟨_, a, b⟩ := h; ⟨_, pe_callTy call_list_of hg hm (by decide +kernel) (pa_cons a pa_nil he) (by decide) (by decide) he rfl, evl_1 calll_list b⟩
theorem x_tuple (hg : Gl X "tuple") (hm : X.mg "tuple" = none) (h : PR X e rr) (he : starEach [e] X.env = [(false, eval e X.env)] := by rfl) {p : Pos} : PX X (.Call (.Name "tuple" p) [e] [] pos) (m1 fTuple rr) :=
  let ⟨_, a, b⟩ := h; ⟨_, pe_callTy call_tuple_of hg hm (by decide +kernel) (pa_cons a pa_nil he) (by decide) (by decide) he rfl, evx_1 callv_tuple b⟩
theorem x_if {c : Expr} {t : MT} (h : PTx X c t) (h1 : PX X e1 m) (h2 : PX X e2 n) : PX X (.IfExp c e1 e2 pos) (mIf t m n) := let ⟨_, a, b⟩ := h; let ⟨_, c, d⟩ := h1; let ⟨_, f, g⟩ := h2; ⟨_, pe_ifExp a c f, evx_if b d g⟩
theorem t_val (h : PX X e m) (he : ∀ whole, isTrue e X.env whole = (do let v ← whole; standAt e.pos; holding [v] (truthy v)) := by intro _; rfl) : PTx X e (tX m) := let ⟨_, a, b⟩ := h; ⟨_, pt_val a he, evt_b b⟩
theorem t_not {t : MT} (h : PTx X e t) : PTx X (.UnaryOp .Not e pos) (tNo t) := let ⟨_, a, b⟩ := h; ⟨_, pt_not a, evt_not b⟩
end
/-- and, or, whatever the whole is -/
def PWx (X : Cx) (e : Expr) (m : MT) : Prop := ∃ t, PW X e t ∧ EvT t m
section
variable {X : Cx} {e e1 e2 : Expr} {es : List Expr} {m n : MX} {tq u : MT} {l : ML} {pos : Pos}
theorem PWx.t (h : PWx X e tq) : PTx X e tq := let ⟨_, a, b⟩ := h; ⟨_, a.pt, b⟩
theorem w_and1 (h : PTx X e tq) : PWx X (.BoolOp .And [e] pos) tq := let ⟨_, a, b⟩ := h; ⟨_, pw_and1 a, b⟩
theorem w_or1 (h : PTx X e tq) : PWx X (.BoolOp .Or [e] pos) tq := let ⟨_, a, b⟩ := h; ⟨_, pw_or1 a, b⟩
theorem w_and (h : PTx X e tq) (k : PWx X (.BoolOp .And (e1 :: es) pos) u) : PWx X (.BoolOp .And (e :: e1 :: es) pos) (tAn tq u) := let ⟨_, a, b⟩ := h; let ⟨_, c, d⟩ := k; ⟨_, pw_and a c, evt_and b d⟩
theorem w_or (h : PTx X e tq) (k : PWx X (.BoolOp .Or (e1 :: es) pos) u) : PWx X (.BoolOp .Or (e :: e1 :: es) pos) (tOrr tq u) := let ⟨_, a, b⟩ := h; let ⟨_, c, d⟩ := k; ⟨_, pw_or a c, evt_or b d⟩
theorem x_and (h : PX X e m) (k : PX X (.BoolOp .And (e1 :: es) pos) n) : PX X (.BoolOp .And (e :: e1 :: es) pos) (mAn m n) := let ⟨_, a, b⟩ := h; let ⟨_, c, d⟩ := k; ⟨_, pe_and a c, evx_and b d⟩
theorem x_or (h : PX X e m) (k : PX X (.BoolOp .Or (e1 :: es) pos) n) : PX X (.BoolOp .Or (e :: e1 :: es) pos) (mOrr m n) := let ⟨_, a, b⟩ := h; let ⟨_, c, d⟩ := k; ⟨_, pe_or a c, evx_or b d⟩
theorem x_not (h : PX X e m) : PX X (.UnaryOp .Not e pos) (mNo m) := let ⟨_, a, b⟩ := h; ⟨_, pe_not a, evx_not b⟩
theorem g_name (i : Nat) {x : Str} (hN : X.N.Nodup) (hi : X.N[i]? = some x := by rfl) (hx : Loc X.env.scope x := by first | exact Or.inl rfl | exact Or.inr rfl) (hf : X.fn x = true ∨ X.env.scope.names.lookup x = some .local := by first | exact .inl rfl | exact .inr rfl) : PGx X (.Name x pos) [i] (bName i) :=
  ⟨_, pg_name hN hi hx hf, evg_name i⟩
variable {tg : Expr}
theorem i_list (h : PX X e m) : PIx X tg e [] (iLs m) := let ⟨_, a, b⟩ := h; ⟨_, pi_list a, evi_list b⟩
theorem i_tup (h : PX X e m) : PIx X tg e [] (iTp m) := let ⟨_, a, b⟩ := h; ⟨_, pi_tup a, evi_tup b⟩
theorem i_lo (i : Nat) {x : Str} {pos : Pos} (hN : X.N[i]? = some x := by rfl) (hv : Vis X.env.scope x := by first | exact Or.inl rfl | exact Or.inr (Or.inl rfl) | exact Or.inr (Or.inr rfl)) (hd : (x == ("__debug__" : Str)) = false := by decide)
    (hcd : (x == ("__classdict__" : Str)) = false := by decide) : PIx X tg (.Name x pos) [i] (iLo i) := ⟨_, pi_list (pe_var hN hv hd hcd), evi_lo i⟩
theorem i_r1 (hg : Gl X "range") (hm : X.mg "range" = none) (h : PX X e m) (hs : starEach [e] X.env = [(false, eval e X.env)] := by rfl) {p : Pos} : PIx X tg (.Call (.Name "range" p) [e] [] pos) [] (iR1 m) :=
  let ⟨_, a, b⟩ := h; ⟨_, pi_range1 hg hm (pa_cons a pa_nil hs) hs, evi_r1 b⟩
theorem i_r2 (hg : Gl X "range") (hm : X.mg "range" = none) (h : PX X e m) (k : PX X e1 n) (hs : starEach [e, e1] X.env = [(false, eval e X.env), (false, eval e1 X.env)] := by rfl) (hs2 : starEach [e1] X.env = [(false, eval e1 X.env)] := by rfl) {p : Pos} :
    PIx X tg (.Call (.Name "range" p) [e, e1] [] pos) [] (iR2 m n) :=
  let ⟨_, a, b⟩ := h; let ⟨_, c, d⟩ := k; ⟨_, pi_range2 hg hm (pa_cons a (pa_cons c pa_nil hs2) (by rw [hs, hs2])) hs hs2, evi_r2 b d⟩
variable {s : Stmt} {ss tt : List Stmt} {a b c : MS}
theorem s_nil : PSx X [] sNext := ⟨_, pss_nil, evs_next⟩
theorem s_cons (h : PS1 X s a) (k : PSx X ss b) : PSx X (s :: ss) (sSeq a b) := let ⟨_, p, q⟩ := h; let ⟨_, r, t⟩ := k; ⟨_, pss_cons p r, evs_seq q t⟩
theorem s_one (h : PS1 X s a) : PSx X [s] a := let ⟨_, p, q⟩ := h; ⟨_, pss_one p, q⟩
theorem s_ret (h : PX X e m) : PS1 X (.Return (some e) pos) (sRet m) := let ⟨_, p, q⟩ := h; ⟨_, ps_ret p, evs_ret q⟩
theorem s_retN : PS1 X (.Return none pos) sRetN := ⟨_, ps_retN, evs_retN⟩
theorem s_expr (h : PX X e m) (hs : swapsWith e none pos.line X.env = pure false := by rfl) : PS1 X (.Expr e pos) (sDrop m) := let ⟨_, p, q⟩ := h; ⟨_, ps_expr p hs, evs_drop q⟩
theorem s_if {cc : Expr} (h : PTx X cc tq) (k : PSx X ss a) (j : PSx X tt b) : PS1 X (.If cc ss tt pos) (sIf tq a b) := let ⟨_, p, q⟩ := h; let ⟨_, r, u⟩ := k; let ⟨_, v, w⟩ := j; ⟨_, ps_if p r v, evs_if q u w⟩
theorem s_set (i : Nat) {x : Str} {pos' : Pos} (hN : X.N.Nodup) (h : PX X e m) (hi : X.N[i]? = some x := by rfl) (hx : Loc X.env.scope x := by first | exact Or.inl rfl | exact Or.inr rfl) (hs : swapsWith e (some (.Name x pos')) pos.line X.env = pure false := by rfl)
    (hf : X.fn x = true ∨ X.env.scope.names.lookup x = some .local := by first | exact .inl rfl | exact .inr rfl) : PS1 X (.Assign [.Name x pos'] e pos) (sAsg m (bName i)) := let ⟨_, p, q⟩ := h; ⟨_, ps_set hN hi hx p hs hf, evs_asg q (evg_name i)⟩
theorem s_setL (i : Nat) {x : Str} {pos' : Pos} (hN : X.N.Nodup) (h : PL X e l) (hi : X.N[i]? = some x := by rfl) (hx : Loc X.env.scope x := by first | exact Or.inl rfl | exact Or.inr rfl) (hs : swapsWith e (some (.Name x pos')) pos.line X.env = pure false := by rfl)
    (hf : X.fn x = true ∨ X.env.scope.names.lookup x = some .local := by first | exact .inl rfl | exact .inr rfl) : PS1 X (.Assign [.Name x pos'] e pos) (sAsgL i l) := let ⟨_, p, q⟩ := h; ⟨_, ps_set hN hi hx p hs hf, evs_asgL i q⟩
end
end MM


namespace MM
open PySem PySem.Spec PyProof.Rows L2
variable [Tb]

/-! ### one reading for all contexts -/
def cX (m : MX) : TE := fun σ H Q => ∃ a c Γ R F, Sta a c σ Γ R F H ∧ ∃ d Γ', m Γ = some (d, Γ') ∧ ∀ v F' H', Ex F F' → Sta a c σ Γ' R F' H' → Da F' v d → Q v H'
def cT (m : MT) : TT := fun σ H Q => ∃ a c Γ R F, Sta a c σ Γ R F H ∧ ∃ b Γ', m Γ = some (b, Γ') ∧ ∀ F' H', Ex F F' → Sta a c σ Γ' R F' H' → Q b H'
def cG (gs : List Nat) (b : MB) : TG := fun x σ H Q => ∃ a c Γ R F, Sta a c σ Γ R F H ∧ ∃ d Γ', Da F x d ∧ b d Γ = some Γ' ∧ ∀ σ', (∀ j, j ∉ gs → σ'[j]? = σ[j]?) → σ'.length = σ.length → Sta a c σ' Γ' R F H → Q σ' H
theorem evx_c1 (m : MX) : EvX (cX m) m := fun a c σ Γ R F H s d Γ' e Q q => ⟨a, c, Γ, R, F, s, d, Γ', e, q⟩
theorem evt_c1 (m : MT) : EvT (cT m) m := fun a c σ Γ R F H s d Γ' e Q q => ⟨a, c, Γ, R, F, s, d, Γ', e, q⟩
theorem evg_c1 (gs : List Nat) (b : MB) : EvG (cG gs b) gs b := fun a c σ Γ R F H s x d Γ' h e Q q => ⟨a, c, Γ, R, F, s, d, Γ', h, e, q⟩
section
variable {X : Cx} {e : Expr} {es : List Expr} {m : MX} {tq : MT} {gs : List Nat} {b : MB}
theorem PX.c (h : PX X e m) : PE X e (cX m) := by
  obtain ⟨t, h1, h2⟩ := h
  exact ⟨fun pins s σ H Q I ⟨a, c, Γ, R, F, st, d, Γ', e, q⟩ => h1.run pins s σ H Q I (h2 a c σ Γ R F H st d Γ' e Q q)⟩
theorem PTx.c (h : PTx X e tq) : PT X e (cT tq) := by
  obtain ⟨t, h1, h2⟩ := h
  exact ⟨fun pins s σ H Q I ⟨a, c, Γ, R, F, st, d, Γ', e, q⟩ => h1.run pins s σ H Q I (h2 a c σ Γ R F H st d Γ' e Q q)⟩
theorem PGx.c (h : PGx X e gs b) : PG X e (cG gs b) := by
  obtain ⟨t, h1, h2⟩ := h
  refine ⟨fun pins s σ H x v Q I hx hq => h1.run pins s σ H x v Q I hx ?_⟩
  obtain ⟨a, c, Γ, R, F, st, d, Γ', h, e, q⟩ := hq
  exact h2 a c σ Γ R F H st x d Γ' h e Q q
def PTsx (X : Cx) (es : List Expr) (m : MT) : Prop := PTs X es (cT m)
theorem ts_nil : PTsx X [] tTrue := by
  refine ⟨fun pins s σ H Q I ⟨a, c, Γ, R, F, st, d, Γ', e, q⟩ => pts_nil.run pins s σ H Q I ?_⟩
  cases e
  exact q F H (Ex.refl F) st
theorem ts_one (h : PTx X e tq) : PTsx X [e] tq := pts_one h.c
end
/-- a list comprehension with one for -/
theorem l_lc {X : Cx} {elt tg iter : Expr} {ifs : List Expr} {scope : Scope} {pos : Pos} {sl gs : List Nat} {mi : MI} {b : MB} {tq : MT} {m : MX} (own : List (Str × Nat)) (hc : X.calm = true) (hN : X.N.Nodup) (hi : PIx X tg iter sl mi) (ok : BlkOk X.N X.env.scope scope own)
    (hg : ∀ (s : Shared) (H : Hp) (C : Addr) (cl : List (Str × Addr)) (fp : List Addr), PGx (X.blk s H scope (compEnvC scope cl C X.env) fp) tg gs b)
    (ht : ∀ (s : Shared) (H : Hp) (C : Addr) (cl : List (Str × Addr)) (fp : List Addr), PTsx (X.blk s H scope (compEnvC scope cl C X.env) fp) ifs tq)
    (he : ∀ (s : Shared) (H : Hp) (C : Addr) (cl : List (Str × Addr)) (fp : List Addr), PX (X.blk s H scope (compEnvC scope cl C X.env) fp) elt m)
    (hsl : ∀ j ∈ sl, j ∉ own.map (·.2) := by decide) (hgs : ∀ j ∈ gs, j ∈ own.map (·.2) := by decide) (hs : ∀ x, foldedSetIterable iter X.env x = pure x := by intro _; rfl) :
    PL X (.ListComp elt [⟨tg, iter, ifs, 0⟩] scope pos) (lLc mi b tq m (own.map (·.2))) := by
  obtain ⟨wi, h1, h2⟩ := hi
  exact ⟨_, pe_lc hc hN h1 ok (fun s H C cl fp => (hg s H C cl fp).c) ht (fun s H C cl fp => (he s H C cl fp).c) hs, evl_lc h2 hsl (evg_c1 gs b) hgs (evt_c1 tq) (evx_c1 m)⟩
section
variable {X : Cx} {e e1 tg : Expr} {es : List Expr} {m n : MX} {l : ML} {pos : Pos} {ss : List Stmt} {a : MS} {gs : List Nat} {mi : MI} {b : MB}
theorem s_for (hp : PassesOwn (model X.prog X.w) X.A X.env X.xe) (hc : X.calm = true) (hi : PIx X tg e [] mi) (hm : Calm mi) (hg : PGx X tg gs b) (hb : PSx X ss a) (hs : ∀ x, foldedSetIterable e X.env x = pure x := by intro _; rfl) : PS1 X (.For tg e ss [] pos) (sFor mi b a) :=
  let ⟨_, p, q⟩ := hi; let ⟨_, r, s⟩ := hg; let ⟨_, u, v⟩ := hb; ⟨_, ps_for hp hc p r u hs, evs_for q hm s v⟩
/-- x.append(e), x.pop(e), x.pop() of a list of one's own -/
theorem x_app (i : Nat) {x : Str} {p1 apos : Pos} (h : PX X e m) (hN : X.N[i]? = some x := by rfl) (hv : Vis X.env.scope x := by first | exact Or.inl rfl | exact Or.inr (Or.inl rfl) | exact Or.inr (Or.inr rfl)) (hd : (x == ("__debug__" : Str)) = false := by decide)
    (hcd : (x == ("__classdict__" : Str)) = false := by decide)
    (hbase : attributeBase (.Name x p1) "append" X.env (eval (.Name x p1) X.env) = eval (.Name x p1) X.env := by rfl)
    (hfew : ((backTo pos (starEach [e] X.env)).all (fun x => !x.1) && (backToKw pos (keywordEach [] X.env)).all (fun x => x.1.isSome)
      && decide ([e].length + ([] : List Keyword).length + (if ([] : List Keyword).isEmpty then 0 else 1) < 30)) = true := by rfl)
    (hline : (apos.endLine == pos.line) = true := by rfl) (hs : starEach [e] X.env = [(false, eval e X.env)] := by rfl) : PX X (.Call (.Attribute (.Name x p1) "append" apos) [e] [] pos) (mApp i m) :=
  let ⟨_, p, q⟩ := h; ⟨_, pe_bm PySem.F.plainAttrs_list PySem.F.slot_list_append PySem.F.type_list_append mt_append (pe_var hN hv hd hcd) (pa_cons p pa_nil hs) hbase hfew hline hs rfl, evx_app q⟩
theorem x_popAt (i : Nat) {x : Str} {p1 apos : Pos} (h : PX X e m) (hN : X.N[i]? = some x := by rfl) (hv : Vis X.env.scope x := by first | exact Or.inl rfl | exact Or.inr (Or.inl rfl) | exact Or.inr (Or.inr rfl)) (hd : (x == ("__debug__" : Str)) = false := by decide)
    (hcd : (x == ("__classdict__" : Str)) = false := by decide)
    (hbase : attributeBase (.Name x p1) "pop" X.env (eval (.Name x p1) X.env) = eval (.Name x p1) X.env := by rfl)
    (hfew : ((backTo pos (starEach [e] X.env)).all (fun x => !x.1) && (backToKw pos (keywordEach [] X.env)).all (fun x => x.1.isSome)
      && decide ([e].length + ([] : List Keyword).length + (if ([] : List Keyword).isEmpty then 0 else 1) < 30)) = true := by rfl)
    (hline : (apos.endLine == pos.line) = true := by rfl) (hs : starEach [e] X.env = [(false, eval e X.env)] := by rfl) : PX X (.Call (.Attribute (.Name x p1) "pop" apos) [e] [] pos) (mPopAt i m) :=
  let ⟨_, p, q⟩ := h; ⟨_, pe_bm PySem.F.plainAttrs_list PySem.F.slot_list_pop PySem.F.type_list_pop mt_popAt (pe_var hN hv hd hcd) (pa_cons p pa_nil hs) hbase hfew hline hs rfl, evx_popAt q⟩
theorem x_pop (i : Nat) {x : Str} {p1 apos : Pos} (hN : X.N[i]? = some x := by rfl) (hv : Vis X.env.scope x := by first | exact Or.inl rfl | exact Or.inr (Or.inl rfl) | exact Or.inr (Or.inr rfl)) (hd : (x == ("__debug__" : Str)) = false := by decide)
    (hcd : (x == ("__classdict__" : Str)) = false := by decide)
    (hbase : attributeBase (.Name x p1) "pop" X.env (eval (.Name x p1) X.env) = eval (.Name x p1) X.env := by rfl)
    (hline : (apos.endLine == pos.line) = true := by rfl) : PX X (.Call (.Attribute (.Name x p1) "pop" apos) [] [] pos) (mPop i) :=
  ⟨_, pe_bm0 PySem.F.plainAttrs_list PySem.F.slot_list_pop PySem.F.type_list_pop mt_pop (pe_var hN hv hd hcd) hbase hline, evx_pop⟩
/-- calls of defs -/
theorem x_call {k n : Nat} {x : Str} {f : Addr} {fd : FuncData} {ps : List Str} {mf : List PyData → Option PyData} {p : Pos} (F : FnOk X.prog X.w X.K X.mg X.base CX0 k f fd ps (spP n mf)) (hr : Room k X.A) (hg : Gl X x) (hm : X.mg x = some (.ref f)) (hk : PySem.W.keepIn X.K (.ref f) = true)
    (hb : Binds X.K fd ps []) (ha : PAx X (e :: es) l) (hn : ∀ ds d, mf ds = some d → ds.length = n) (hdb : (x == ("__debug__" : Str)) = false := by decide) (he : starEach (e :: es) X.env = (false, eval e X.env) :: starEach es X.env := by rfl) (hpl : (backTo pos (starEach es X.env)).any (·.1) = false := by rfl) :
    PX X (.Call (.Name x p) (e :: es) [] pos) (mCall mf l) :=
  let ⟨_, p, q⟩ := ha; ⟨_, pe_call F hr hg hm hk hb .nil pass0 p hdb he hpl, evx_call q hn⟩
theorem x_callS (i : Nat) {k n : Nat} {x y : Str} {f : Addr} {fd : FuncData} {ps : List Str} {mf : Gn → List PyData → Option (PyData × Gn)} {p p1 : Pos} (F : FnOk X.prog X.w X.K X.mg X.base CX0 k f fd ps (spS n mf)) (hr : Room k X.A) (hg : Gl X x) (hm : X.mg x = some (.ref f)) (hk : PySem.W.keepIn X.K (.ref f) = true)
    (hb : Binds X.K fd ps []) (ha : PAx X es l) (hn : ∀ g ds d, mf g ds = some d → ds.length = n) (hN : X.N[i]? = some y := by rfl) (hv : Vis X.env.scope y := by first | exact Or.inl rfl | exact Or.inr (Or.inl rfl) | exact Or.inr (Or.inr rfl)) (hd : (y == ("__debug__" : Str)) = false := by decide)
    (hcd : (y == ("__classdict__" : Str)) = false := by decide) (hdb : (x == ("__debug__" : Str)) = false := by decide) (he : starEach (.Name y p1 :: es) X.env = (false, eval (.Name y p1) X.env) :: starEach es X.env := by rfl) (hpl : (backTo pos (starEach es X.env)).any (·.1) = false := by rfl) :
    PX X (.Call (.Name x p) (.Name y p1 :: es) [] pos) (mCallS i mf l) :=
  let ⟨_, p, q⟩ := ha; ⟨_, pe_call F hr hg hm hk hb .nil pass0 (pa_cons (pe_var hN hv hd hcd) p he) hdb he hpl, evx_callS q hn⟩
end
section
variable {P : Program} {w : World} {K : PySem.W.Frag} {mg : Str → Option Value} {base : Heap}
theorem fn_p {x qual : Str} {st : Stmt} {f : Addr} {fd : FuncData} {N ps : List Str} {k n : Nat} {m : MS} (F : Fun K x qual st f fd) (S : FnScope N ps (defScope st)) (hn : ps.length = n)
    (hb : ∀ (cdv : Value) (A : Around) (outer : List Env) (s : Shared) (H : Hp) (E : XK), Room k (A.deeper (envOfC qual (defScope st) s.heap.objs.size f cdv)) → PSx (cxOf CX0 P w K mg base N qual (defScope st) f cdv A outer s H E).nox (defBody st) m) :
    FnOk P w K mg base CX0 (k + 1) f fd ps (spP n (runP N.length n m)) := by
  refine F.ok S (fun vs H Q E h => h.1.trans hn.symm) fun cdv A outer s H vs Q E hr h => ?_
  obtain ⟨t, h1, h2⟩ := hb cdv A outer s H E hr
  exact ⟨t, h1, read_p h2 rfl h⟩
theorem fn_s {x qual : Str} {st : Stmt} {f : Addr} {fd : FuncData} {N ps : List Str} {k n : Nat} {m : MS} (F : Fun K x qual st f fd) (S : FnScope N ps (defScope st)) (hn : ps.length = n + 1)
    (hb : ∀ (cdv : Value) (A : Around) (outer : List Env) (s : Shared) (H : Hp) (E : XK), Room k (A.deeper (envOfC qual (defScope st) s.heap.objs.size f cdv)) → PSx (cxOf CX0 P w K mg base N qual (defScope st) f cdv A outer s H E).nox (defBody st) m) :
    FnOk P w K mg base CX0 (k + 1) f fd ps (spS n (runS N.length n m)) := by
  refine F.ok S (fun vs H Q E h => ?_) fun cdv A outer s H vs Q E hr h => ?_
  · obtain ⟨a, c, vs', _, _, _, _, _, _, rfl, e, _⟩ := h
    rw [List.length_cons, e, hn]
  · obtain ⟨t, h1, h2⟩ := hb cdv A outer s H E hr
    exact ⟨t, h1, read_s h2 rfl h⟩
end
end MM


namespace MM
open PySem PySem.Spec PyProof.Rows L2
variable [Tb]

/-! ### a number from the source -/
def refill (cells : List Int) (left : Int) : List Int × Int :=
  if h : left < 2 ∧ cells ≠ [] then refill cells.dropLast (cells.getLast h.2) else (cells, left)
termination_by cells.length
decreasing_by
  have : cells.length ≠ 0 := fun e => h.2 (List.length_eq_zero_iff.mp e)
  rw [List.length_dropLast]
  omega
def pickG (g : Gn) (n : Int) : Int × Gn :=
  if n < 2 then (0, g) else
    let r := refill g.cells g.left
    if 1 < r.2 then (r.2 % n, ⟨r.1, r.2 / n, g.mixed, g.turn⟩)
    else ((((g.mixed + (g.turn + 1) * 104729) % 998244353 * ((g.mixed + (g.turn + 1) * 104729) % 998244353) + (g.turn + 1) * 17) % 2147483647 / 16) % n, ⟨r.1, r.2, g.mixed, g.turn + 1⟩)
theorem pickG_range (g : Gn) {n : Int} (h : 1 ≤ n) : 0 ≤ (pickG g n).1 ∧ (pickG g n).1 < n := by
  unfold pickG
  split
  · exact ⟨Int.le_refl _, by omega⟩
  · dsimp only
    split
    · exact ⟨Int.emod_nonneg _ (by omega), Int.emod_lt_of_pos _ (by omega)⟩
    · exact ⟨Int.emod_nonneg _ (by omega), Int.emod_lt_of_pos _ (by omega)⟩
def m_pick (g : Gn) (ds : List PyData) : Option (PyData × Gn) := match ds with
  | [.int n] => if n < 1000000 then some (.int (pickG g n).1, (pickG g n).2) else none
  | _ => none
theorem n_pick : ∀ g ds d, m_pick g ds = some d → ds.length = 1 := fun g ds d h => by
  unfold m_pick at h
  split at h
  · rfl
  · cases h
/-- the source as it is written by its four keys -/
theorem src_get {H : Hp} {a c : Addr} {g : Gn} (e : H a = some (srcD c g)) {k : Str} {v : V} (h : valV [((.inr "cells" : L2.Key), V.ref c), (.inr "left", .int g.left), (.inr "mixed", .int g.mixed), (.inr "turn", .int g.turn)] (.inr k) = some v) : DGet H a (.str k) (some v) := by
  have := DGet.k (k := .inr k) e
  rw [h] at this
  exact this
theorem src_put {H : Hp} {a c : Addr} {g g' : Gn} {k : Str} {v : V} (e : H a = some (srcD c g)) (h : HO.dK (putK [((.inr "cells" : L2.Key), V.ref c), (.inr "left", .int g.left), (.inr "mixed", .int g.mixed), (.inr "turn", .int g.turn)] (.inr k) v) = srcD c g') :
    DPut H a (.str k) v (upd H a (srcD c g')) := by
  rw [← h]
  exact DPut.k (k := .inr k) e (Nat.lt_of_le_of_lt (by decide : 4 ≤ 100) (by decide))
def srcS (H : Hp) (a c : Addr) (g : Gn) : Prop := H a = some (srcD c g) ∧ H c = some (.lst (g.cells.map V.int)) ∧ a ≠ c
theorem srcS_of {F H : Hp} {a c : Addr} {g : Gn} {R : Own} (w : Wd F (srcO a c g ++ R) H) : srcS H a c g := by
  refine ⟨(w.own _ (List.mem_cons_self ..)).1, (w.own _ (List.mem_cons_of_mem _ (List.mem_cons_self ..))).1, fun e => ?_⟩
  have := w.nd
  rw [show (srcO a c g ++ R).map (·.1) = a :: c :: R.map (·.1) from rfl, List.nodup_cons] at this
  exact this.1 (by rw [e]; exact List.mem_cons_self ..)
/-- the source alone has changed -/
def Kept (a c : Addr) (H H' : Hp) : Prop := ∀ b, b ≠ a → b ≠ c → H' b = H b
theorem Kept.refl {a c : Addr} {H : Hp} : Kept a c H H := fun _ _ _ => rfl
theorem Kept.trans {a c : Addr} {H H1 H2 : Hp} (x : Kept a c H H1) (y : Kept a c H1 H2) : Kept a c H H2 := fun b h1 h2 => (y b h1 h2).trans (x b h1 h2)
theorem Kept.a {a c : Addr} {H : Hp} {o : HO} : Kept a c H (upd H a o) := fun b h _ => upd_ne h
theorem Kept.c {a c : Addr} {H : Hp} {o : HO} : Kept a c H (upd H c o) := fun b _ h => upd_ne h
theorem wd_kept {F H H' : Hp} {a c : Addr} {g g' : Gn} {R : Own} (w : Wd F (srcO a c g ++ R) H) (k : Kept a c H H') (s : srcS H' a c g') : Wd F (srcO a c g' ++ R) H' := by
  have e : H' = upd (upd H a (srcD c g')) c (.lst (g'.cells.map V.int)) := by
    funext b
    by_cases h2 : b = c
    · subst h2
      rw [upd_same]
      exact s.2.1
    · rw [upd_ne h2]
      by_cases h1 : b = a
      · subst h1
        rw [upd_same]
        exact s.1
      · rw [upd_ne h1]
        exact k b h1 h2
  have w1 : Wd F ((c, .lst (g.cells.map V.int)) :: (a, srcD c g') :: R) (upd H a (srcD c g')) := (Wd.put (o' := srcD c g') (show Wd F ((a, srcD c g) :: (c, .lst (g.cells.map V.int)) :: R) H from w)).perm (List.Perm.swap _ _ _)
  rw [e]
  exact (Wd.put (o' := .lst (g'.cells.map V.int)) w1).perm (List.Perm.swap _ _ _)
abbrev N_pick : List Str := ["source", "most", "cells", "others", "lap", "stirred"]
section
variable {P : Program} {w : World} {K : PySem.W.Frag} {mg : Str → Option Value} {base : Heap}
theorem ok_pick0 {st : Stmt} (sc : FnScope N_pick ["source", "most"] (defScope st)) {f : Addr} {fd : FuncData} (F : Fun K "_law_pick" "_law_pick" st f fd) (z1 : mg "len" = none) (z2 : mg "int" = none)
    (hb : ∀ (cdv : Value) (A : Around) (outer : List Env) (s : Shared) (H : Hp) (E : XK), Room 0 (A.deeper (envOfC "_law_pick" (defScope st) s.heap.objs.size f cdv)) →
      ∃ t, PSs (cxOf CX0 P w K mg base N_pick "_law_pick" (defScope st) f cdv A outer s H E).nox (defBody st) t ∧
        ∀ (D : Ends) (H : Hp) (a c : Addr) (g : Gn) (n : Int), n < 1000000 → srcS H a c g → (∀ H', Kept a c H H' → srcS H' a c (pickG g n).2 → D.rt (.int (pickG g n).1) H') →
          t D (L2.start N_pick [.ref a, .int n]) H) :
    FnOk P w K mg base CX0 1 f fd ["source", "most"] (spS 1 m_pick) := by
  refine F.ok sc (fun vs H Q E h => ?_) fun cdv A outer s H vs Q E hr h => ?_
  · obtain ⟨a, c, vs', _, _, _, _, _, _, rfl, e, _⟩ := h
    rw [List.length_cons, e]
    rfl
  · obtain ⟨t, h1, h2⟩ := hb cdv A outer s H E hr
    refine ⟨t, h1, ?_⟩
    obtain ⟨a, c, vs', F, R, ds, g, d, g', rfl, e, hd, wd, hm, q⟩ := h
    unfold m_pick at hm
    split at hm
    · rename_i n
      split at hm
      · cases hm
        cases hd with
        | cons hd ht =>
          cases ht
          rw [hd.int_inv]
          refine h2 _ H a c g n (by assumption) (srcS_of wd) fun H' k s' => ?_
          exact q _ F H' (Ex.refl F) (wd_kept wd k s') (.int _)
      · cases hm
    · cases hm
end
end MM


namespace MM
open PySem PySem.Spec PyProof.Rows L2
variable [Tb]

/-! ### chains, None, ints -/
theorem evx_chain {r r' : R2} {f g : PyData → PyData → Option PyData} {ta tb tc : TE} {m n o : MX} (hf : OpD r f) (hg : OpD r' g) (h1 : EvX ta m) (h2 : EvX tb n) (h3 : EvX tc o) : EvX (tChain r r' ta tb tc) (mCh f g m n o) := by
  intro a c σ Γ R F H s d Γ' e Q q
  obtain ⟨⟨d1, Γ1⟩, e1, e⟩ := Option.bind_eq_some_iff.mp e
  obtain ⟨⟨d2, Γ2⟩, e2, e⟩ := Option.bind_eq_some_iff.mp e
  obtain ⟨d3, e3, e⟩ := Option.bind_eq_some_iff.mp e
  refine h1 a c σ Γ R F H s d1 Γ1 e1 _ fun v F1 H1 x1 s1 k1 => h2 a c σ Γ1 R F1 H1 s1 d2 Γ2 e2 _ fun u F2 H2 x2 s2 k2 => ?_
  refine hf a c σ Γ2 R F2 H2 s2 v u d1 d2 d3 (k1.mono x2) k2 e3 _ fun w F3 H3 x3 s3 k3 => ?_
  dsimp only at e
  split at e
  · obtain ⟨⟨d4, Γ4⟩, e4, e⟩ := Option.bind_eq_some_iff.mp e
    obtain ⟨d5, e5, e⟩ := Option.bind_eq_some_iff.mp e
    cases e
    refine ⟨true, k3.bl_inv, iteT (h3 a c σ Γ2 R F3 H3 s3 d4 _ e4 _ fun z F4 H4 x4 s4 k4 => ?_)⟩
    exact hg a c σ _ R F4 H4 s4 u z d2 d4 d (k2.mono (x3.trans x4)) k4 e5 Q fun w' F5 H5 x5 s5 k5 => q w' F5 H5 ((((x1.trans x2).trans x3).trans x4).trans x5) s5 k5
  · cases e
    exact ⟨false, k3.bl_inv, iteF (q _ F3 H3 ((x1.trans x2).trans x3) s3 (.bl false))⟩
  · cases e
def isNone : PyData → Bool
  | .none => true
  | _ => false
def mIsN (neg : Bool) (m : MX) : MX := fun Γ => (m Γ).bind fun r => some (.bool (if neg then !isNone r.1 else isNone r.1), r.2)
theorem Da.isNone {F : Hp} {v : V} {d : PyData} (h : Da F v d) : decide (v = .non) = MM.isNone d := by cases h <;> rfl
theorem evx_isN {ta : TE} {m : MX} (h : EvX ta m) : EvX (tIsN ta) (mIsN false m) := by
  intro a c σ Γ R F H s d Γ' e Q q
  obtain ⟨⟨d1, Γ1⟩, e1, e⟩ := Option.bind_eq_some_iff.mp e
  cases e
  refine h a c σ Γ R F H s d1 _ e1 _ fun v F1 H1 x1 s1 k1 => ?_
  rw [k1.isNone]
  exact q _ F1 H1 x1 s1 (.bl _)
theorem evx_notN {ta : TE} {m : MX} (h : EvX ta m) : EvX (tNotN ta) (mIsN true m) := by
  intro a c σ Γ R F H s d Γ' e Q q
  obtain ⟨⟨d1, Γ1⟩, e1, e⟩ := Option.bind_eq_some_iff.mp e
  cases e
  refine h a c σ Γ R F H s d1 _ e1 _ fun v F1 H1 x1 s1 k1 => ?_
  rw [k1.isNone]
  exact q _ F1 H1 x1 s1 (.bl _)
def fMul : PyData → PyData → Option PyData
  | .int i, .int j => if (-(2 ^ 64) < i ∧ i < 2 ^ 64) ∨ (-(2 ^ 64) < j ∧ j < 2 ^ 64) then some (.int (i * j)) else none
  | _, _ => none
theorem opd_mul : OpD (rI CMul fun i j => .int (i * j)) fMul := by
  intro a c σ Γ R F H s x y dx dy d h1 h2 e Q q
  unfold fMul at e
  split at e
  · split at e
    · rename_i z
      cases e
      exact ⟨_, _, h1.int_inv, h2.int_inv, z, q _ F H (Ex.refl F) s (.int _)⟩
    · cases e
  · cases e
def fMod : PyData → PyData → Option PyData
  | .int i, .int j => if 0 < j then some (.int (i % j)) else none
  | _, _ => none
theorem opd_mod : OpD (rI (fun _ j => 0 < j) fun i j => .int (i % j)) fMod := by
  intro a c σ Γ R F H s x y dx dy d h1 h2 e Q q
  unfold fMod at e
  split at e
  · split at e
    · rename_i z
      cases e
      exact ⟨_, _, h1.int_inv, h2.int_inv, z, q _ F H (Ex.refl F) s (.int _)⟩
    · cases e
  · cases e
def mNeg (m : MX) : MX := fun Γ => (m Γ).bind fun r => match r.1 with
  | .int i => some (.int (-i), r.2)
  | _ => none
theorem evx_neg {ta : TE} {m : MX} (h : EvX ta m) : EvX (tUn (rU fun i => .int (-i)) ta) (mNeg m) := by
  intro a c σ Γ R F H s d Γ' e Q q
  obtain ⟨⟨d1, Γ1⟩, e1, e⟩ := Option.bind_eq_some_iff.mp e
  dsimp only at e
  split at e
  · cases e
    exact h a c σ Γ R F H s _ _ e1 _ fun v F1 H1 x1 s1 k1 => ⟨_, k1.int_inv, q _ F1 H1 x1 s1 (.int _)⟩
  · cases e
/-- a tuple of ints ahead of another -/
def intsOf : List PyData → Option (List Int)
  | [] => some []
  | .int i :: r => (intsOf r).map (i :: ·)
  | _ => none
theorem intsOf_eq : ∀ {ds : List PyData} {ns : List Int}, intsOf ds = some ns → ds = ns.map PyData.int
  | [], ns, h => by
    cases h
    rfl
  | d :: r, ns, h => by
    cases d <;> first | (simp [intsOf] at h; done) | skip
    rename_i i
    simp only [intsOf] at h
    cases e : intsOf r with
    | none => rw [e] at h; cases h
    | some ms =>
      rw [e] at h
      cases h
      rw [intsOf_eq e]
      rfl
theorem intsOf_map : ∀ ns : List Int, intsOf (ns.map PyData.int) = some ns
  | [] => rfl
  | n :: r => by
    show (intsOf (r.map PyData.int)).map (n :: ·) = _
    rw [intsOf_map r]
    rfl
theorem da_ints {F : Hp} : ∀ {ns : List Int} {vs : List V}, DaAll F vs (ns.map PyData.int) → vs = ns.map V.int
  | [], _, h => by
    cases h
    rfl
  | n :: r, _, h => by
    cases h with
    | cons h t =>
      rw [da_ints t, h.int_inv]
      rfl
def fLtT : PyData → PyData → Option PyData
  | .tuple xs, .tuple ys => (intsOf xs).bind fun ns => (intsOf ys).bind fun ms => some (.bool (HT.lexLt ns ms))
  | _, _ => none
theorem opd_ltT {K : PySem.W.Frag} : OpD (rLtT K) fLtT := by
  intro a c σ Γ R F H s x y dx dy d h1 h2 e Q q
  unfold fLtT at e
  split at e
  · obtain ⟨ns, e1, e⟩ := Option.bind_eq_some_iff.mp e
    obtain ⟨ms, e2, e⟩ := Option.bind_eq_some_iff.mp e
    cases e
    have e1 := intsOf_eq e1
    have e2 := intsOf_eq e2
    subst e1 e2
    cases h1 with
    | tup p1 a1 =>
      cases h2 with
      | tup p2 a2 =>
        have b1 := da_ints a1
        have b2 := da_ints a2
        subst b1 b2
        exact ⟨_, _, ns, ms, rfl, rfl, .inl (.inl (s.ex _ _ p1)), .inl (.inl (s.ex _ _ p2)), q _ F H (Ex.refl F) s (.bl _)⟩
  · cases e
/-! ### any, all, sum of a list -/
def boolsOf : List PyData → Option (List Bool)
  | [] => some []
  | .bool b :: r => (boolsOf r).map (b :: ·)
  | _ => none
theorem boolsOf_eq : ∀ {ds : List PyData} {bs : List Bool}, boolsOf ds = some bs → ds = bs.map PyData.bool
  | [], bs, h => by
    cases h
    rfl
  | d :: r, bs, h => by
    cases d <;> first | (simp [boolsOf] at h; done) | skip
    simp only [boolsOf] at h
    cases e : boolsOf r with
    | none => rw [e] at h; cases h
    | some ms =>
      rw [e] at h
      cases h
      rw [boolsOf_eq e]
      rfl
theorem da_bools {F : Hp} : ∀ {bs : List Bool} {vs : List V}, DaAll F vs (bs.map PyData.bool) → vs = bs.map V.bl
  | [], _, h => by
    cases h
    rfl
  | n :: r, _, h => by
    cases h with
    | cons h t =>
      rw [da_bools t, h.bl_inv]
      rfl
def fAny : PyData → Option PyData
  | .list ds => (boolsOf ds).bind fun bs => some (.bool (bs.any id))
  | _ => none
def fAll : PyData → Option PyData
  | .list ds => (boolsOf ds).bind fun bs => some (.bool (bs.all id))
  | _ => none
def fSum : PyData → Option PyData
  | .list ds => (intsOf ds).bind fun ns => some (.int ns.sum)
  | _ => none
theorem callv_any {K : PySem.W.Frag} : CallV (rAny K) fAny := by
  intro a c σ Γ R F H s v d e l h Q q
  unfold fAny at h
  split at h
  · obtain ⟨bs, e1, h⟩ := Option.bind_eq_some_iff.mp h
    cases h
    have e1 := boolsOf_eq e1
    subst e1
    obtain ⟨p, vs, rfl, hp, ha⟩ := l
    have b := da_bools ha
    subst b
    exact ⟨p, bs, rfl, .inl (.inl hp), q _ F H (Ex.refl F) s (.bl _)⟩
  · cases h
theorem callv_all {K : PySem.W.Frag} : CallV (rAll K) fAll := by
  intro a c σ Γ R F H s v d e l h Q q
  unfold fAll at h
  split at h
  · obtain ⟨bs, e1, h⟩ := Option.bind_eq_some_iff.mp h
    cases h
    have e1 := boolsOf_eq e1
    subst e1
    obtain ⟨p, vs, rfl, hp, ha⟩ := l
    have b := da_bools ha
    subst b
    exact ⟨p, bs, rfl, .inl (.inl hp), q _ F H (Ex.refl F) s (.bl _)⟩
  · cases h
theorem callv_sum {K : PySem.W.Frag} : CallV (rSum K) fSum := by
  intro a c σ Γ R F H s v d e l h Q q
  unfold fSum at h
  split at h
  · obtain ⟨bs, e1, h⟩ := Option.bind_eq_some_iff.mp h
    cases h
    have e1 := intsOf_eq e1
    subst e1
    obtain ⟨p, vs, rfl, hp, ha⟩ := l
    have b := da_ints ha
    subst b
    exact ⟨p, bs, rfl, .inl (.inl hp), q _ F H (Ex.refl F) s (.int _)⟩
  · cases h
/-- sorted(l) of ints -/
def sortI (ns : List Int) : List Int := ns.mergeSort (fun a b => decide (a ≤ b))
theorem sortI_perm (ns : List Int) : (sortI ns).Perm ns := List.mergeSort_perm ns _
theorem sortI_pw (ns : List Int) : (sortI ns).Pairwise (· ≤ ·) := by
  have := List.pairwise_mergeSort (le := fun a b : Int => decide (a ≤ b)) (fun a b c h1 h2 => by simp at *; omega) (fun a b => by simp; omega) ns
  exact this.imp fun h => by simpa using h
theorem sorted_uniq : ∀ {l m : List Int}, l.Perm m → l.Pairwise (· ≤ ·) → m.Pairwise (· ≤ ·) → l = m := fun p h1 h2 =>
  List.Perm.eq_of_pairwise (fun a b _ _ h k => Int.le_antisymm h k) h1 h2 p
def fSortint : PyData → Option (List PyData)
  | .list ds => (intsOf ds).bind fun ns => if ns.length < 64 then some ((sortI ns).map PyData.int) else none
  | _ => none
theorem ints_da {F : Hp} : ∀ ns : List Int, DaAll F (ns.map V.int) (ns.map PyData.int)
  | [] => .nil
  | n :: r => .cons (.int n) (ints_da r)
theorem calll_sorti {K : PySem.W.Frag} : CallL (rSorted K) fSortint := by
  intro a c σ Γ R F H s v d e l h Q q
  unfold fSortint at h
  split at h
  · obtain ⟨ns, e1, h⟩ := Option.bind_eq_some_iff.mp h
    split at h
    · rename_i z
      cases h
      have e1 := intsOf_eq e1
      subst e1
      obtain ⟨p, vs, rfl, hp, ha⟩ := l
      have b := da_ints ha
      subst b
      refine ⟨p, ns, rfl, .inl (.inl hp), z, fun ns' p' h1 h2 h3 => ?_⟩
      have e2 : ns' = sortI ns := sorted_uniq (h1.trans (sortI_perm ns).symm) h2 (sortI_pw ns)
      subst e2
      exact q _ _ _ _ (Ex.refl F) (s.mine h3) (ints_da _)
    · cases h
  · cases h
/-! ### two ints -/
def m2 (f : Int → Int → Int) (m n : MX) : MX := fun Γ => (m Γ).bind fun r => (n r.2).bind fun t => match r.1, t.1 with
  | .int i, .int j => some (.int (f i j), t.2)
  | _, _ => none
theorem evx_2 {f : Int → Int → Int} {ta tb : TE} {m n : MX} (h1 : EvX ta m) (h2 : EvX tb n) : EvX (tCB (fun xs H Q => ∃ i j, xs = [V.int i, .int j] ∧ Q (.int (f i j)) H) (tCons ta (tCons tb tNil))) (m2 f m n) := by
  intro a c σ Γ R F H s d Γ' e Q q
  obtain ⟨⟨d1, Γ1⟩, e1, e⟩ := Option.bind_eq_some_iff.mp e
  obtain ⟨⟨d2, Γ2⟩, e2, e⟩ := Option.bind_eq_some_iff.mp e
  dsimp only at e
  split at e
  · cases e
    refine h1 a c σ Γ R F H s _ Γ1 e1 _ fun v F1 H1 x1 s1 k1 => h2 a c σ Γ1 R F1 H1 s1 _ _ e2 _ fun u F2 H2 x2 s2 k2 => ?_
    exact ⟨_, _, by rw [k1.int_inv, k2.int_inv], q _ F2 H2 (x1.trans x2) s2 (.int _)⟩
  · cases e
def mmin2 := m2 fun i j => if j < i then j else i
def mmax2 := m2 fun i j => if j > i then j else i
/-! ### isinstance(x, T) of a built-in T -/
def tyD : PyData → String
  | .none => "NoneType"
  | .bool _ => "bool"
  | .int _ => "int"
  | .str _ => "str"
  | .list _ => "list"
  | .tuple _ => "tuple"
  | .dict _ => "dict"
def isiD (T : String) (d : PyData) : Option Bool := kitB (tyD d) T
def mIsi (T : String) (m : MX) : MX := fun Γ => (m Γ).bind fun r => (isiD T r.1).bind fun b => some (.bool b, r.2)
theorem Da.ty {K : PySem.W.Frag} {F H : Hp} (e : Ex F H) {v : V} {d : PyData} (h : Da F v d) : TyX K H v (.type (tyD d)) := by
  cases h with
  | non => exact .base .non
  | bl b => exact .base (.bl b)
  | int i => exact .base (.int i)
  | str x => exact .base (.str x)
  | lst h a => exact .base (.lst (e _ _ h))
  | tup h a => exact .base (.tup (e _ _ h))
theorem evx_isi {K : PySem.W.Frag} {T : String} {ta tt : TE} {m : MX} (ht : tt = tC (.ty T)) (h1 : EvX ta m) : EvX (tCB (rIsi K) (tCons ta (tCons tt tNil))) (mIsi T m) := by
  subst ht
  intro a c σ Γ R F H s d Γ' e Q q
  obtain ⟨⟨d1, Γ1⟩, e1, e⟩ := Option.bind_eq_some_iff.mp e
  obtain ⟨b, e2, e⟩ := Option.bind_eq_some_iff.mp e
  cases e
  refine h1 a c σ Γ R F H s _ _ e1 _ fun v F1 H1 x1 s1 k1 => ?_
  exact ⟨v, .ty T, .type (tyD d1), .type T, b, rfl, .ty T, k1.ty s1.ex, kit_ty e2, q _ F1 H1 x1 s1 (.bl b)⟩
end MM


namespace MM
open PySem PySem.Spec PyProof.Rows L2
variable [Tb]

section
variable {X : Cx} {e e1 e2 e3 : Expr} {es : List Expr} {m n o : MX} {l k : ML} {rr : MR} {pos : Pos}
theorem x_chain {op op' : CmpOp} {r r' : R2} {f g : PyData → PyData → Option PyData} (ho : OpR X (compareOp op) r) (ho' : OpR X (compareOp op') r') (hf : OpD r f) (hg : OpD r' g) (h1 : PX X e1 m) (h2 : PX X e2 n) (h3 : PX X e3 o)
    (hm : lastMarks [op, op'] [e2, e3] = false := by with_unfolding_all rfl) : PX X (.Compare e1 [op, op'] [e2, e3] pos) (mCh f g m n o) :=
  let ⟨_, a, b⟩ := h1; let ⟨_, c, d⟩ := h2; let ⟨_, p, q⟩ := h3; ⟨_, pe_chain ho ho' a c p hm, evx_chain hf hg b d q⟩
theorem x_mul (h1 : PX X e1 m) (h2 : PX X e2 n) : PX X (.BinOp e1 .Mult e2 pos) (mOp fMul m n) := x_op op_mul opd_mul h1 h2
theorem x_mod (h1 : PX X e1 m) (h2 : PX X e2 n) : PX X (.BinOp e1 .Mod e2 pos) (mOp fMod m n) := x_op op_mod opd_mod h1 h2
theorem x_neg (h1 : PX X e m) : PX X (.UnaryOp .USub e pos) (mNeg m) := let ⟨_, a, b⟩ := h1; ⟨_, pe_un un_neg a, evx_neg b⟩
theorem x_is {j : Nat} {p : Pos} (h : PX X e m) : PX X (.Compare e [.Is] [.Constant .none j p] pos) (mIsN false m) := let ⟨_, a, b⟩ := h; ⟨_, pe_cmp (pc_isN a), evx_isN b⟩
theorem x_isnt {j : Nat} {p : Pos} (h : PX X e m) : PX X (.Compare e [.IsNot] [.Constant .none j p] pos) (mIsN true m) := let ⟨_, a, b⟩ := h; ⟨_, pe_cmp (pc_notN a), evx_notN b⟩
theorem t_is {j : Nat} {p : Pos} (h : PX X e m) : PTx X (.Compare e [.Is] [.Constant .none j p] pos) (tX (mIsN false m)) := let ⟨_, a, b⟩ := h; ⟨_, pt_cmp (pc_isN a), evt_b (evx_isN b)⟩
theorem t_isnt {j : Nat} {p : Pos} (h : PX X e m) : PTx X (.Compare e [.IsNot] [.Constant .none j p] pos) (tX (mIsN true m)) := let ⟨_, a, b⟩ := h; ⟨_, pt_cmp (pc_notN a), evt_b (evx_notN b)⟩
theorem x_ltT (hu : X.A.units < cLine) (h1 : PX X e1 m) (h2 : PX X e2 n) (hm : behindInMarks .Lt e2 = false := by first | exact nomark _ | rfl) : PX X (.Compare e1 [.Lt] [e2] pos) (mOp fLtT m n) := x_cmp (op_ltT hu) opd_ltT h1 h2 hm
theorem t_ltT (hu : X.A.units < cLine) (h1 : PX X e1 m) (h2 : PX X e2 n) (hm : behindInMarks .Lt e2 = false := by first | exact nomark _ | rfl) : PTx X (.Compare e1 [.Lt] [e2] pos) (tX (mOp fLtT m n)) := t_cmp (op_ltT hu) opd_ltT h1 h2 hm
theorem x_indeep (hu : X.A.units + 65 < cLine) (h1 : PX X e1 m) (h2 : PR X e2 rr) (hm : behindInMarks .In e2 = false := by first | exact nobehind _ (by decide) (by decide) | rfl) : PX X (.Compare e1 [.In] [e2] pos) (mIn (fInD false) m rr) :=
  let ⟨_, a, b⟩ := h1; let ⟨_, c, d⟩ := h2; ⟨_, pe_cmpR (op_inD hu) a c hm, evx_inD b d⟩
theorem x_nindeep (hu : X.A.units + 65 < cLine) (h1 : PX X e1 m) (h2 : PR X e2 rr) (hm : behindInMarks .NotIn e2 = false := by first | exact nobehind _ (by decide) (by decide) | rfl) : PX X (.Compare e1 [.NotIn] [e2] pos) (mIn (fInD true) m rr) :=
  let ⟨_, a, b⟩ := h1; let ⟨_, c, d⟩ := h2; ⟨_, pe_cmpR (op_notInD hu) a c hm, evx_ninD b d⟩
theorem t_indeep (hu : X.A.units + 65 < cLine) (h1 : PX X e1 m) (h2 : PR X e2 rr) (hm : behindInMarks .In e2 = false := by first | exact nobehind _ (by decide) (by decide) | rfl) : PTx X (.Compare e1 [.In] [e2] pos) (tX (mIn (fInD false) m rr)) :=
  let ⟨_, a, b⟩ := h1; let ⟨_, c, d⟩ := h2; ⟨_, pt_cmpR (op_inD hu) a c hm, evt_x (evx_inD b d)⟩
theorem t_nindeep (hu : X.A.units + 65 < cLine) (h1 : PX X e1 m) (h2 : PR X e2 rr) (hm : behindInMarks .NotIn e2 = false := by first | exact nobehind _ (by decide) (by decide) | rfl) : PTx X (.Compare e1 [.NotIn] [e2] pos) (tX (mIn (fInD true) m rr)) :=
  let ⟨_, a, b⟩ := h1; let ⟨_, c, d⟩ := h2; ⟨_, pt_cmpR (op_notInD hu) a c hm, evt_x (evx_ninD b d)⟩
/-! slices -/
def POx (X : Cx) (e : Option Expr) (m : MO) : Prop := ∃ t, PO X e t ∧ EvO t m
theorem o_no : POx X none oNo := ⟨_, po_none, evo_no⟩
theorem o_x (h : PX X e m) : POx X (some e) (oX m) := let ⟨_, a, b⟩ := h; ⟨_, po_some a, evo_x b⟩
theorem x_sl {lo hi : Option Expr} {ml mh : MO} {p2 : Pos} (h : PR X e rr) (h1 : POx X lo ml) (h2 : POx X hi mh) : PX X (.Subscript e (.Slice lo hi none p2) pos) (mSl rr ml mh) :=
  let ⟨_, a, b⟩ := h; let ⟨_, c, d⟩ := h1; let ⟨_, p, q⟩ := h2; ⟨_, pe_slice sl_tupA a c p, evx_sl b d q⟩
theorem l_sl {lo hi : Option Expr} {ml mh : MO} {p2 : Pos} (h : PR X e rr) (h1 : POx X lo ml) (h2 : POx X hi mh) : PL X (.Subscript e (.Slice lo hi none p2) pos) (lSl rr ml mh) :=
  let ⟨_, a, b⟩ := h; let ⟨_, c, d⟩ := h1; let ⟨_, p, q⟩ := h2; ⟨_, pe_slice sl_list a c p, evl_sl b d q⟩
/-! targets of several names -/
def PGsx (X : Cx) (es : List Expr) (gs : List Nat) (b : List PyData → Ga → Option Ga) : Prop := ∃ t, PGs X es t ∧ EvGs t gs b
theorem gs_nil : PGsx X [] [] bNil := ⟨_, pgs_nil, evgs_nil⟩
theorem gs_cons {gs hs : List Nat} {b : MB} {bs : List PyData → Ga → Option Ga} (h : PGx X e gs b) (k : PGsx X es hs bs) (hs1 : (assignEach (e :: es) X.env).map (·.2) = assign e X.env :: (assignEach es X.env).map (·.2) := by rfl) : PGsx X (e :: es) (gs ++ hs) (bCons b bs) := let ⟨_, p, q⟩ := h; let ⟨_, r, s⟩ := k; ⟨_, pgs_cons p r hs1, evgs_cons q s⟩
theorem g_tup {gs : List Nat} {bs : List PyData → Ga → Option Ga} {kk : Nat} {n : Nat} (hc : X.calm = true) (h : PGsx X es gs bs) (hn : (assignEach es X.env).length = n := by rfl) (hst : (assignEach es X.env).findIdx? (·.1) = none := by rfl) : PGx X (.Tuple es kk pos) gs (bTup n bs) := let ⟨_, p, q⟩ := h; ⟨_, pg_tup hc p hn hst, evg_tup q⟩
theorem s_asg {tg : Expr} {gs : List Nat} {b : MB} (h : PX X e m) (g : PGx X tg gs b) (hs : swapsWithSole [tg] e pos.line X.env = pure false := by rfl) (hw : swappedStores [tg] e X.env = pure none := by rfl)
    (h1 : (assignEach [tg] X.env).map (·.2) = [assign tg X.env] := by rfl) : PS1 X (.Assign [tg] e pos) (sAsg m b) := let ⟨_, p, q⟩ := h; let ⟨_, r, s⟩ := g; ⟨_, ps_asg p r hs hw h1, evs_asg q s⟩
/-! built-ins -/
theorem x_any (hg : Gl X "any") (hm : X.mg "any" = none) (hc : X.calm = true) (h : PR X e rr) (he : starEach [e] X.env = [(false, eval e X.env)] := by rfl) {p : Pos} : PX X (.Call (.Name "any" p) [e] [] pos) (m1 fAny rr) :=
  let ⟨_, a, b⟩ := h; ⟨_, pe_callB (cr_any hc) hg hm (by decide +kernel) (pa_cons a pa_nil he) (by decide) (by decide) he rfl, evx_1 callv_any b⟩
theorem x_all (hg : Gl X "all") (hm : X.mg "all" = none) (hc : X.calm = true) (h : PR X e rr) (he : starEach [e] X.env = [(false, eval e X.env)] := by rfl) {p : Pos} : PX X (.Call (.Name "all" p) [e] [] pos) (m1 fAll rr) :=
  let ⟨_, a, b⟩ := h; ⟨_, pe_callB (cr_all hc) hg hm (by decide +kernel) (pa_cons a pa_nil he) (by decide) (by decide) he rfl, evx_1 callv_all b⟩
theorem x_sum (hg : Gl X "sum") (hm : X.mg "sum" = none) (hc : X.calm = true) (h : PR X e rr) (he : starEach [e] X.env = [(false, eval e X.env)] := by rfl) {p : Pos} : PX X (.Call (.Name "sum" p) [e] [] pos) (m1 fSum rr) :=
  let ⟨_, a, b⟩ := h; ⟨_, pe_callB (cr_sum hc) hg hm (by decide +kernel) (pa_cons a pa_nil he) (by decide) (by decide) he rfl, evx_1 callv_sum b⟩
theorem l_sortint (hg : Gl X "sorted") (hm : X.mg "sorted" = none) (h : PR X e rr) (he : starEach [e] X.env = [(false, eval e X.env)] := by rfl) {p : Pos} : PL X (.Call (.Name "sorted" p) [e] [] pos) (l1 fSortint rr) :=
  let ⟨_, a, b⟩ := h; ⟨_, pe_callB cr_sorted hg hm (by decide +kernel) (pa_cons a pa_nil he) (by decide) (by decide) he rfl, evl_1 calll_sorti b⟩
theorem x_min2 (hg : Gl X "min") (hm : X.mg "min" = none) (hc : X.calm = true) (h : PX X e m) (h' : PX X e1 n) (he : starEach [e, e1] X.env = (false, eval e X.env) :: starEach [e1] X.env := by rfl) (he2 : starEach [e1] X.env = [(false, eval e1 X.env)] := by rfl) (hpl : (backTo pos (starEach [e1] X.env)).any (·.1) = false := by rfl) {p : Pos} : PX X (.Call (.Name "min" p) [e, e1] [] pos) (mmin2 m n) :=
  let ⟨_, a, b⟩ := h; let ⟨_, c, d⟩ := h'; ⟨_, pe_callB (call_min2 hc) hg hm (by decide +kernel) (pa_cons a (pa_cons c pa_nil he2) he) (by decide) (by decide) he hpl, evx_2 b d⟩
theorem x_isi {T : String} {p1 p2 : Pos} {nm : Str} (hg : Gl X "isinstance") (hm : X.mg "isinstance" = none) (hg2 : Gl X nm) (hm2 : X.mg nm = none) (hv : bootBuiltins nm = some (.type T)) (h : PX X e m) (hn : nm ≠ "__name__" := by decide) (hd : (nm == ("__debug__" : Str)) = false := by decide)
    (he : starEach [e, .Name nm p2] X.env = (false, eval e X.env) :: starEach [.Name nm p2] X.env := by rfl) (he2 : starEach [.Name nm p2] X.env = [(false, eval (.Name nm p2) X.env)] := by rfl) (hpl : (backTo pos (starEach [.Name nm p2] X.env)).any (·.1) = false := by rfl) :
    PX X (.Call (.Name "isinstance" p1) [e, .Name nm p2] [] pos) (mIsi T m) :=
  let ⟨_, a, b⟩ := h; ⟨_, pe_callB call_isi hg hm (by decide +kernel) (pa_cons a (pa_cons (pe_bltn (v := .ty T) hg2 hm2 hv rfl hn hd) pa_nil he2) he) (by decide) (by decide) he hpl, evx_isi rfl b⟩
end
end MM


namespace MM
open PySem PySem.Spec PyProof.Rows L2
variable [Tb]

/-! ### a, b = x, y -/
theorem wd_swap {F H : Hp} {q q' : Addr × HO} {R O : Own} (w : Wd F (O ++ q :: q' :: R) H) : Wd F (O ++ q' :: q :: R) H := w.perm (List.Perm.append_left O (List.Perm.swap _ _ _))
theorem Sta.swap {a c : Addr} {F H : Hp} {σ : L2.St} {Γ : Ga} {q q' : Addr × HO} {R : Own} (s : Sta a c σ Γ (q :: q' :: R) F H) : Sta a c σ Γ (q' :: q :: R) F H := let ⟨O, r, w⟩ := s.st; ⟨O, r, wd_swap w⟩
def sParXX (i j : Nat) (m n : MX) : MS := fun Γ => (m Γ).bind fun r => (n r.2).bind fun t => if i < t.2.length ∧ j < t.2.length then some (.nx, (t.2.set i (.dat r.1)).set j (.dat t.1)) else none
def sParXL (i j : Nat) (m : MX) (n : ML) : MS := fun Γ => (m Γ).bind fun r => (n r.2).bind fun t => if i < t.2.length ∧ j < t.2.length then some (.nx, (t.2.set i (.dat r.1)).set j (.lst t.1)) else none
def sParLX (i j : Nat) (m : ML) (n : MX) : MS := fun Γ => (m Γ).bind fun r => (n r.2).bind fun t => if i < t.2.length ∧ j < t.2.length then some (.nx, (t.2.set i (.lst r.1)).set j (.dat t.1)) else none
def sParLL (i j : Nat) (m n : ML) : MS := fun Γ => (m Γ).bind fun r => (n r.2).bind fun t => if i < t.2.length ∧ j < t.2.length then some (.nx, (t.2.set i (.lst r.1)).set j (.lst t.1)) else none
section
variable {ta tb : TE} {i j : Nat}
theorem evs_parXX {m n : MX} (h1 : EvX ta m) (h2 : EvX tb n) : EvS (tPar i j (tCons ta (tCons tb tNil))) (sParXX i j m n) := by
  intro a c σ Γ R F H s fl Γ' e D k
  obtain ⟨⟨d1, Γ1⟩, e1, e⟩ := Option.bind_eq_some_iff.mp e
  obtain ⟨⟨d2, Γ2⟩, e2, e⟩ := Option.bind_eq_some_iff.mp e
  dsimp only at e
  split at e
  · rename_i z
    cases e
    refine h1 a c σ Γ R F H s d1 Γ1 e1 _ fun v F1 H1 x1 s1 k1 => h2 a c σ Γ1 R F1 H1 s1 d2 Γ2 e2 _ fun u F2 H2 x2 s2 k2 => ?_
    exact ⟨v, u, rfl, k _ F2 H2 (x1.trans x2) ((s2.set_dat z.1 (k1.mono x2)).set_dat (by simpa using z.2) k2)⟩
  · cases e
theorem evs_parXL {m : MX} {n : ML} (h1 : EvX ta m) (h2 : EvL tb n) : EvS (tPar i j (tCons ta (tCons tb tNil))) (sParXL i j m n) := by
  intro a c σ Γ R F H s fl Γ' e D k
  obtain ⟨⟨d1, Γ1⟩, e1, e⟩ := Option.bind_eq_some_iff.mp e
  obtain ⟨⟨d2, Γ2⟩, e2, e⟩ := Option.bind_eq_some_iff.mp e
  dsimp only at e
  split at e
  · rename_i z
    cases e
    refine h1 a c σ Γ R F H s d1 Γ1 e1 _ fun v F1 H1 x1 s1 k1 => h2 a c σ Γ1 R F1 H1 s1 d2 Γ2 e2 _ fun p vs F2 H2 x2 s2 k2 => ?_
    exact ⟨v, .ref p, rfl, k _ F2 H2 (x1.trans x2) ((s2.set_dat z.1 (k1.mono x2)).set_lst (by simpa using z.2) k2)⟩
  · cases e
theorem evs_parLX {m : ML} {n : MX} (h1 : EvL ta m) (h2 : EvX tb n) : EvS (tPar i j (tCons ta (tCons tb tNil))) (sParLX i j m n) := by
  intro a c σ Γ R F H s fl Γ' e D k
  obtain ⟨⟨d1, Γ1⟩, e1, e⟩ := Option.bind_eq_some_iff.mp e
  obtain ⟨⟨d2, Γ2⟩, e2, e⟩ := Option.bind_eq_some_iff.mp e
  dsimp only at e
  split at e
  · rename_i z
    cases e
    refine h1 a c σ Γ R F H s d1 Γ1 e1 _ fun p vs F1 H1 x1 s1 k1 => h2 a c σ Γ1 _ F1 H1 s1 d2 Γ2 e2 _ fun u F2 H2 x2 s2 k2 => ?_
    exact ⟨.ref p, u, rfl, k _ F2 H2 (x1.trans x2) ((s2.set_lst z.1 (k1.mono x2)).set_dat (by simpa using z.2) k2)⟩
  · cases e
theorem evs_parLL {m n : ML} (h1 : EvL ta m) (h2 : EvL tb n) : EvS (tPar i j (tCons ta (tCons tb tNil))) (sParLL i j m n) := by
  intro a c σ Γ R F H s fl Γ' e D k
  obtain ⟨⟨d1, Γ1⟩, e1, e⟩ := Option.bind_eq_some_iff.mp e
  obtain ⟨⟨d2, Γ2⟩, e2, e⟩ := Option.bind_eq_some_iff.mp e
  dsimp only at e
  split at e
  · rename_i z
    cases e
    refine h1 a c σ Γ R F H s d1 Γ1 e1 _ fun p vs F1 H1 x1 s1 k1 => h2 a c σ Γ1 _ F1 H1 s1 d2 Γ2 e2 _ fun p' us F2 H2 x2 s2 k2 => ?_
    exact ⟨.ref p, .ref p', rfl, k _ F2 H2 (x1.trans x2) ((s2.swap.set_lst z.1 (k1.mono x2)).set_lst (by simpa using z.2) k2)⟩
  · cases e
end
section
variable {X : Cx} {x y : Str} {e1 e2 : Expr} {px py pt pt2 pos : Pos} {kt k2 : Nat}
theorem s_parXX (i j : Nat) {m n : MX} (hN : X.N.Nodup) (h1 : PX X e1 m) (h2 : PX X e2 n) (hc : X.calm = true := by rfl) (hi : X.N[i]? = some x := by rfl) (hj : X.N[j]? = some y := by rfl) (hij : i ≠ j := by decide) (hx : X.env.scope.names.lookup x = some .local := by rfl) (hy : X.env.scope.names.lookup y = some .local := by rfl)
    (hw : swappedStores [.Tuple [.Name x px, .Name y py] kt pt] (.Tuple [e1, e2] k2 pt2) X.env = pure (some [x, y]) := by rfl) (hs : swapsWithSole [.Tuple [.Name x px, .Name y py] kt pt] (.Tuple [e1, e2] k2 pt2) pos.line X.env = pure false := by rfl)
    (he : starEach [e1, e2] X.env = (false, eval e1 X.env) :: starEach [e2] X.env := by rfl) (he2 : starEach [e2] X.env = [(false, eval e2 X.env)] := by rfl) : PS1 X (.Assign [.Tuple [.Name x px, .Name y py] kt pt] (.Tuple [e1, e2] k2 pt2) pos) (sParXX i j m n) :=
  let ⟨_, a, b⟩ := h1; let ⟨_, c, d⟩ := h2; ⟨_, ps_par hc hN hi hj hij hx hy (pa_cons a (pa_cons c pa_nil he2) he) hw hs, evs_parXX b d⟩
theorem s_parXL (i j : Nat) {m : MX} {n : ML} (hN : X.N.Nodup) (h1 : PX X e1 m) (h2 : PL X e2 n) (hc : X.calm = true := by rfl) (hi : X.N[i]? = some x := by rfl) (hj : X.N[j]? = some y := by rfl) (hij : i ≠ j := by decide) (hx : X.env.scope.names.lookup x = some .local := by rfl) (hy : X.env.scope.names.lookup y = some .local := by rfl)
    (hw : swappedStores [.Tuple [.Name x px, .Name y py] kt pt] (.Tuple [e1, e2] k2 pt2) X.env = pure (some [x, y]) := by rfl) (hs : swapsWithSole [.Tuple [.Name x px, .Name y py] kt pt] (.Tuple [e1, e2] k2 pt2) pos.line X.env = pure false := by rfl)
    (he : starEach [e1, e2] X.env = (false, eval e1 X.env) :: starEach [e2] X.env := by rfl) (he2 : starEach [e2] X.env = [(false, eval e2 X.env)] := by rfl) : PS1 X (.Assign [.Tuple [.Name x px, .Name y py] kt pt] (.Tuple [e1, e2] k2 pt2) pos) (sParXL i j m n) :=
  let ⟨_, a, b⟩ := h1; let ⟨_, c, d⟩ := h2; ⟨_, ps_par hc hN hi hj hij hx hy (pa_cons a (pa_cons c pa_nil he2) he) hw hs, evs_parXL b d⟩
theorem s_parLX (i j : Nat) {m : ML} {n : MX} (hN : X.N.Nodup) (h1 : PL X e1 m) (h2 : PX X e2 n) (hc : X.calm = true := by rfl) (hi : X.N[i]? = some x := by rfl) (hj : X.N[j]? = some y := by rfl) (hij : i ≠ j := by decide) (hx : X.env.scope.names.lookup x = some .local := by rfl) (hy : X.env.scope.names.lookup y = some .local := by rfl)
    (hw : swappedStores [.Tuple [.Name x px, .Name y py] kt pt] (.Tuple [e1, e2] k2 pt2) X.env = pure (some [x, y]) := by rfl) (hs : swapsWithSole [.Tuple [.Name x px, .Name y py] kt pt] (.Tuple [e1, e2] k2 pt2) pos.line X.env = pure false := by rfl)
    (he : starEach [e1, e2] X.env = (false, eval e1 X.env) :: starEach [e2] X.env := by rfl) (he2 : starEach [e2] X.env = [(false, eval e2 X.env)] := by rfl) : PS1 X (.Assign [.Tuple [.Name x px, .Name y py] kt pt] (.Tuple [e1, e2] k2 pt2) pos) (sParLX i j m n) :=
  let ⟨_, a, b⟩ := h1; let ⟨_, c, d⟩ := h2; ⟨_, ps_par hc hN hi hj hij hx hy (pa_cons a (pa_cons c pa_nil he2) he) hw hs, evs_parLX b d⟩
theorem s_parLL (i j : Nat) {m n : ML} (hN : X.N.Nodup) (h1 : PL X e1 m) (h2 : PL X e2 n) (hc : X.calm = true := by rfl) (hi : X.N[i]? = some x := by rfl) (hj : X.N[j]? = some y := by rfl) (hij : i ≠ j := by decide) (hx : X.env.scope.names.lookup x = some .local := by rfl) (hy : X.env.scope.names.lookup y = some .local := by rfl)
    (hw : swappedStores [.Tuple [.Name x px, .Name y py] kt pt] (.Tuple [e1, e2] k2 pt2) X.env = pure (some [x, y]) := by rfl) (hs : swapsWithSole [.Tuple [.Name x px, .Name y py] kt pt] (.Tuple [e1, e2] k2 pt2) pos.line X.env = pure false := by rfl)
    (he : starEach [e1, e2] X.env = (false, eval e1 X.env) :: starEach [e2] X.env := by rfl) (he2 : starEach [e2] X.env = [(false, eval e2 X.env)] := by rfl) : PS1 X (.Assign [.Tuple [.Name x px, .Name y py] kt pt] (.Tuple [e1, e2] k2 pt2) pos) (sParLL i j m n) :=
  let ⟨_, a, b⟩ := h1; let ⟨_, c, d⟩ := h2; ⟨_, ps_par hc hN hi hj hij hx hy (pa_cons a (pa_cons c pa_nil he2) he) hw hs, evs_parLL b d⟩
end

/-! ### zip of two tuples, of two lists -/
def zipD : List PyData → List PyData → List PyData := List.zipWith fun x y => .tuple [x, y]
def iZp (m n : MX) : MI := fun Γ => (m Γ).bind fun r => (n r.2).bind fun t => match r.1, t.1 with
  | .tuple xs, .tuple ys => some (zipD xs ys, any_, t.2)
  | .list xs, .list ys => some (zipD xs ys, any_, t.2)
  | _, _ => none
theorem zipD_get {xs ys : List PyData} {i : Nat} {d : PyData} (h : (zipD xs ys)[i]? = some d) : ∃ x y, xs[i]? = some x ∧ ys[i]? = some y ∧ d = .tuple [x, y] := by
  unfold zipD at h
  rw [List.getElem?_zipWith] at h
  cases e1 : xs[i]? with
  | none => rw [e1] at h; cases h
  | some x =>
    cases e2 : ys[i]? with
    | none => rw [e1, e2] at h; cases h
    | some y =>
      rw [e1, e2] at h
      cases h
      exact ⟨x, y, rfl, rfl, rfl⟩
theorem evi_zip {K : PySem.W.Frag} {ta tb : TE} {m n : MX} (h : EvX ta m) (k : EvX tb n) : EvI (RZ.iZipA K (tCons ta (tCons tb tNil))) [] (iZp m n) := by
  intro a c σ Γ R F H s ds kp Γ' e Rj q
  obtain ⟨⟨d1, Γ1⟩, e1, e⟩ := Option.bind_eq_some_iff.mp e
  obtain ⟨⟨d2, Γ2⟩, e2, e⟩ := Option.bind_eq_some_iff.mp e
  dsimp only at e
  split at e
  · rename_i xs ys
    cases e
    refine h a c σ Γ R F H s _ _ e1 _ fun v F1 H1 x1 s1 k1 => k a c σ _ R F1 H1 s1 _ _ e2 _ fun u F2 H2 x2 s2 k2 => ?_
    have k1' := k1.mono x2
    cases k1' with
    | tup p1 a1 =>
      cases k2 with
      | tup p2 a2 =>
        rename_i p vs p' us
        refine ⟨_, _, _, _, rfl, .inr ⟨.inl (.inl (s2.ex _ _ p1)), .inl (.inl (s2.ex _ _ p2)), q _ (fun F3 H3 => Ex F2 F3 ∧ Ex F3 H3) F2 H2 (x1.trans x2) s2 ?_ fun σ2 Γ2 R2 F3 H3 x3 s3 _ _ => ⟨x3, s3.ex⟩⟩⟩
        rintro F3 H3 ⟨x3, w3⟩
        have q1 : SqT K H3 p vs := .inl (.inl (w3 _ _ (x3 _ _ p1)))
        have q2 : SqT K H3 p' us := .inl (.inl (w3 _ _ (x3 _ _ p2)))
        refine ⟨fun i d e => ?_, ⟨_, _, q1, q2, ?_⟩⟩
        · obtain ⟨x, y, g1, g2, rfl⟩ := zipD_get e
          obtain ⟨vx, f1, h1⟩ := a1.get g1
          obtain ⟨vy, f2, h2⟩ := a2.get g2
          refine ⟨⟨_, _, vx, vy, q1, q2, f1, f2⟩, fun z H4 w => .inr ?_⟩
          obtain ⟨T, x', y', rfl, nT, rfl, w1, w2⟩ := w
          have g1 := (w1 _ q1).symm.trans f1
          have g2 := (w2 _ q2).symm.trans f2
          cases g1
          cases g2
          have xT : Ex F3 (upd F3 T (.tup [vx, vy])) := Ex.new (w3.none nT)
          exact .inl ⟨T, _, nT, rfl, .tup upd_same (.cons (h1.mono (x3.trans xT)) (.cons (h2.mono (x3.trans xT)) .nil))⟩
        · unfold zipD
          rw [List.length_zipWith, a1.length, a2.length]
          omega
  · rename_i xs ys
    cases e
    refine h a c σ Γ R F H s _ _ e1 _ fun v F1 H1 x1 s1 k1 => k a c σ _ R F1 H1 s1 _ _ e2 _ fun u F2 H2 x2 s2 k2 => ?_
    have k1' := k1.mono x2
    cases k1' with
    | lst p1 a1 =>
      cases k2 with
      | lst p2 a2 =>
        rename_i p vs p' us
        refine ⟨_, _, _, _, rfl, .inl ⟨.inl (.inl (s2.ex _ _ p1)), .inl (.inl (s2.ex _ _ p2)), q _ (fun F3 H3 => Ex F2 F3 ∧ Ex F3 H3) F2 H2 (x1.trans x2) s2 ?_ fun σ2 Γ2 R2 F3 H3 x3 s3 _ _ => ⟨x3, s3.ex⟩⟩⟩
        rintro F3 H3 ⟨x3, w3⟩
        have q1 : SqL K H3 p vs := .inl (.inl (w3 _ _ (x3 _ _ p1)))
        have q2 : SqL K H3 p' us := .inl (.inl (w3 _ _ (x3 _ _ p2)))
        refine ⟨fun i d e => ?_, ⟨_, _, q1, q2, ?_⟩⟩
        · obtain ⟨x, y, g1, g2, rfl⟩ := zipD_get e
          obtain ⟨vx, f1, h1⟩ := a1.get g1
          obtain ⟨vy, f2, h2⟩ := a2.get g2
          refine ⟨⟨_, _, vx, vy, q1, q2, f1, f2⟩, fun z H4 w => .inr ?_⟩
          obtain ⟨T, x', y', rfl, nT, rfl, w1, w2⟩ := w
          have g1 := (w1 _ q1).symm.trans f1
          have g2 := (w2 _ q2).symm.trans f2
          cases g1
          cases g2
          have xT : Ex F3 (upd F3 T (.tup [vx, vy])) := Ex.new (w3.none nT)
          exact .inl ⟨T, _, nT, rfl, .tup upd_same (.cons (h1.mono (x3.trans xT)) (.cons (h2.mono (x3.trans xT)) .nil))⟩
        · unfold zipD
          rw [List.length_zipWith, a1.length, a2.length]
          omega
  · cases e
theorem calm_zp {m n : MX} : Calm (iZp m n) := by
  intro Γ ds kp Γ' e
  obtain ⟨⟨d, Γ1⟩, e1, e⟩ := Option.bind_eq_some_iff.mp e
  obtain ⟨⟨d2, Γ2⟩, e2, e⟩ := Option.bind_eq_some_iff.mp e
  dsimp only at e
  split at e <;> cases e <;> rfl
theorem i_zip {X : Cx} {e e1 : Expr} {m n : MX} {pos tpos : Pos} {elts : List Expr} {kk : Nat} (hg : Gl X "zip") (hm : X.mg "zip" = none) (h : PX X e m) (k : PX X e1 n) (hs : starEach [e, e1] X.env = (false, eval e X.env) :: starEach [e1] X.env := by rfl) (hs2 : starEach [e1] X.env = [(false, eval e1 X.env)] := by rfl)
    (hpl : (backTo pos (starEach [e1] X.env)).any (·.1) = false := by rfl) {p : Pos} : PIx X (.Tuple elts kk tpos) (.Call (.Name "zip" p) [e, e1] [] pos) [] (iZp m n) :=
  let ⟨_, a, b⟩ := h; let ⟨_, c, d⟩ := k; ⟨_, RZ.pi_zipA hg hm (pa_cons a (pa_cons c pa_nil hs2) hs) hs hpl, evi_zip b d⟩
end MM


namespace MM
open PySem PySem.Spec PyProof.Rows L2
variable [Tb]
open AutoSeq1 (wpAny_loadPart')
theorem meets_enumerate_newT (l : Addr) (items : Array Value) (n : Nat) (dct : Option Addr) (sl : Array (Option Value)) :
    Meets (Builtin.«enumerate.__new__» ⟨[.type "enumerate", .ref l], []⟩) (fun _ R s => s.heap.get? l = some { cls := .type "tuple", dict := dct, data := .seq items n, slots := sl } ∧
      R (.ok (.ret (.ref (s.heap.push { cls := .type "tuple_iterator", data := .fields #[.ref l, .int 0 0] }).objs.size)))
        { s with heap := (s.heap.push { cls := .type "tuple_iterator", data := .fields #[.ref l, .int 0 0] }).push { cls := .type "enumerate", data := .fields #[.none, .bool false, .ref s.heap.objs.size, rawInt 0, .none, .none] } }) :=
  .of_wp fun prog w A R s h => by
    obtain ⟨hp, g, d, tk, os⟩ := s; obtain ⟨hl, h⟩ := h
    have hsub := sub_enumerate
    have hL : Heap.IsTuple (Shared.heap ⟨hp, g, d, tk, os⟩) l items := ⟨_, hl, rfl, n, rfl⟩
    wp_walk using wpAny_loadPart' hl
    refine wpAny_stack_any fun st => wpAny_pure ?_
    split
    · rename_i c _ _ _ _ _
      cases (c == Value.type "enumerate")
      · wp_walk using wpAny_loadPart' hl, wpAny_pyIter_tuple hL
        exact ⟨_, rfl, h⟩
      · wp_walk using wpAny_loadPart' hl, wpAny_pyIter_tuple hL
        exact ⟨_, rfl, h⟩
    · wp_walk using wpAny_loadPart' hl, wpAny_pyIter_tuple hL
      exact ⟨_, rfl, h⟩
section
variable {prog : Program} {w : World} {A : Around} {E : Value → Shared → Prop} {s : Shared}
theorem call_enumerate_tuple {l : Addr} {items : Array Value} {Q : Value → Shared → Prop} (hL : s.heap.IsTuple l items)
    (h : ∀ h', IsEnum h' (s.heap.objs.size + 1) s.heap.objs.size 0 .none → h'.IsTupleIter s.heap.objs.size l 0 → h'.objs.size = s.heap.objs.size + 2 →
      (∀ b o, s.heap.get? b = some o → h'.get? b = some o) → Q (.ref (s.heap.objs.size + 1)) { s with heap := h' }) :
    wpAny (model prog w) A (call (.type "enumerate") [.ref l]) Q E s := by
  obtain ⟨⟨c, dct, dt, sl⟩, hl, hc, n, hd⟩ := hL
  replace hc : c = .type "tuple" := hc
  replace hd : dt = .seq items n := hd
  subst hc hd
  refine callType_new F.called_enumerate (by decide) (F.typeCall_enumerate_1 _) (F.newCall_enumerate_1 _) (fun obj => F.args_object_init_2 obj _) F.entry_enumerate_new
    (meets_enumerate_newT l items n dct sl) ⟨hl, ?_⟩
  have hz : (s.heap.push { cls := .type "tuple_iterator", data := .fields #[.ref l, .int 0 0] }).objs.size = s.heap.objs.size + 1 := Heap.size_push ..
  show _ ∧ _
  rw [hz]
  have he : IsEnum ((s.heap.push { cls := .type "tuple_iterator", data := .fields #[.ref l, .int 0 0] }).push
      { cls := .type "enumerate", data := .fields #[.none, .bool false, .ref s.heap.objs.size, rawInt 0, .none, .none] }) (s.heap.objs.size + 1) s.heap.objs.size 0 .none := by
    have := Heap.get?_push_size (s.heap.push { cls := .type "tuple_iterator", data := .fields #[.ref l, .int 0 0] })
      (o := { cls := .type "enumerate", data := .fields #[.none, .bool false, .ref s.heap.objs.size, rawInt 0, .none, .none] }) rfl
    rw [hz] at this; exact this
  refine ⟨⟨_, he, rfl⟩, h _ he ⟨_, Heap.get?_push_of_some _ (Heap.get?_push_size _ rfl), rfl, rfl⟩ (by rw [Heap.size_push, hz]) fun b o x => Heap.get?_push_of_some _ (Heap.get?_push_of_some _ x)⟩
end
def Itet (K : PySem.W.Frag) (a : Addr) : It :=
  ⟨fun i H => ∃ (xs : List V) (x : V), SqT K H a xs ∧ xs[i]? = some x, fun i H v H' => ∃ T x, v = .ref T ∧ H T = none ∧ H' = upd H T (.tup [.int (i : Nat), x]) ∧ ∀ xs, SqT K H a xs → xs[i]? = some x, fun i H => ∃ xs : List V, SqT K H a xs ∧ xs.length = i⟩
theorem turn_enumT {P : Program} {w : World} {K : PySem.W.Frag} {elts : List Expr} {kk : Nat} {tpos : Pos} (a e it : Addr) :
    Turn P w K (.Tuple elts kk tpos) (Itet K a) [e, it] e (fun i h => (∃ old, IsEnum h e it ((i : Nat) : Int) old) ∧ h.IsTupleIter it a i ∧ e ≠ it ∧ a ≠ it ∧ a ≠ e) where
  mem := by simp
  obj := fun i h st b hb => by
    obtain ⟨⟨old, he⟩, ⟨o, ho, hc, hd⟩, _⟩ := st
    have e' : b = e ∨ b = it := by simpa using hb
    rcases e' with z | z
    · rw [z]; exact ⟨_, he, fun v q => nomatch q⟩
    · rw [z]; exact ⟨o, ho, fun v q => by rw [hd] at q; cases q⟩
  keep := fun i h h' st k => let ⟨⟨old, he⟩, hi, hne⟩ := st; ⟨⟨old, k e (by simp) _ he⟩, hi.at fun o q => k it (by simp) o q, hne⟩
  item := by
    intro X hP hw hK hc i pins s σ H E I hf st hg
    subst hP hw hK
    obtain ⟨⟨old, he⟩, hit, hne, hai, hae⟩ := st
    obtain ⟨xs, x, hq, hx⟩ := hg
    obtain ⟨its, rv, p, hz⟩ := I.tuple hq
    obtain ⟨u, hu, ru⟩ := rv.get hx
    have hel : e < s.heap.objs.size := Heap.lt_size he
    have hil : it < s.heap.objs.size := by obtain ⟨_, q, _⟩ := hit; exact Heap.lt_size q
    have pT : s.heap.IsTuple a its.toArray := p
    have hu' : its.toArray[i]? = some u := by simpa using hu
    refine wpAny_pyNext_enum_itemD (Draws.tuple (A := X.A.in1) (by first | exact (I.ok.hd hc) | (show X.A.handled = none; exact I.ok.hd hc)) it a hai its.toArray) he ⟨hit, pT⟩ (by
      have := (Array.getElem?_eq_some_iff.mp hu').1
      exact this) hne (by simp; exact ⟨hne, fun z => hae z.symm⟩) fun x' h' tk hP ho hst' hT hsz hk => ?_
    have ex : x' = u := by
      have hP' : its.toArray[i]? = some x' := hP
      rw [hu'] at hP'
      exact (Option.some.inj hP').symm
    subst ex
    obtain ⟨hit', _⟩ := hst'
    refine ⟨_, rfl, wpAny_letOwnedTupleGo_enum (s := { s with heap := h', toks := tk + 1 }) ho fun h'' he' sb => ?_⟩
    have hT2 : h''.get? s.heap.objs.size = some { cls := .type "tuple", data := .seq #[.int i tk, x'] } := (sb.2 _ (Nat.ne_of_gt hel)).trans hT
    have new : ObjOk X.prog X.w (upd H s.heap.objs.size (.tup [.int (i : Nat), x])) h'' s.heap.objs.size (.tup [.int (i : Nat), x]) :=
      ⟨by show 2 ≤ sizeLine; decide, [.int i tk, x'], .cons ⟨_, rfl⟩ (.cons ru .nil), ⟨_, hT2, rfl, _, rfl⟩⟩
    have I1 : Inv X pins σ (upd H s.heap.objs.size (.tup [.int (i : Nat), x])) { s with heap := h'', toks := tk + 1 } :=
      I.turnedNew (ch := [e, it]) (fun b ob hb q => (sb.2 b (fun z => hb (by simp [z]))).trans (hk b ob (fun z => hb (by simp [z])) (fun z => hb (by simp [z])) q)) hf (Nat.le_refl _) new
    refine ⟨.ref s.heap.objs.size, _, I1, rfl, ⟨_, x, rfl, I.hok.fresh (Nat.le_refl _), rfl, fun ys hy => ?_⟩, ⟨⟨x', ?_⟩, hit'.at fun o q => (sb.2 it (Ne.symm hne)).trans q, hne, hai, hae⟩, fun b hb => ?_⟩
    · rw [I.tuple_inj hy hq]
      exact hx
    · have e1 : ((i + 1 : Nat) : Int) = (i : Int) + 1 := by omega
      rw [e1]; exact he'
    · have hb' : b < s.heap.objs.size := by
        have e' : b = e ∨ b = it := by simpa using hb
        rcases e' with z | z
        · rw [z]; exact hel
        · rw [z]; exact hil
      rw [upd_ne (Nat.ne_of_lt hb')]
      exact (hf b hb).1
  done := by
    intro X hP hw hK hc i pins s σ H E I hf st hg
    subst hP hw hK
    obtain ⟨⟨old, he⟩, hit, hne, hai, hae⟩ := st
    obtain ⟨xs, hq, hx⟩ := hg
    obtain ⟨its, rv, p, hz⟩ := I.tuple hq
    obtain ⟨f0, f1, f2, f3, f4, f5⟩ := hf it (by simp)
    have hl := rv.length
    have pT : s.heap.IsTuple a its.toArray := p
    have ei : i = its.toArray.size := by simp; omega
    subst ei
    exact wpAny_pyNext_enum_endD (Draws.tuple (A := X.A.in1) (by first | exact (I.ok.hd hc) | (show X.A.handled = none; exact I.ok.hd hc)) it a hai its.toArray) he ⟨hit, pT⟩ fun h' eb => ⟨rfl, I.turned (t' := s.toks) (fun b o hb q => eb b o hb q) f0 f1 f3 f4 f5⟩
  self := fun A i s Q E st h => let ⟨⟨_, he⟩, _⟩ := st; wpAny_pyIter_enum he h
def iEnumT (K : PySem.W.Frag) (ta : TA) : TI := fun σ H R => ta σ H fun vs H1 => ∃ a xs, vs = [.ref a] ∧ SqT K H1 a xs ∧ R (Itet K a) H1
theorem pi_enumT {X : Cx} {e : Expr} {ta : TA} {p pos tpos : Pos} {elts : List Expr} {kk : Nat} (hg : Gl X "enumerate") (hm : X.mg "enumerate" = none) (ha : PA X [e] ta) (hs : starEach [e] X.env = [(false, eval e X.env)] := by rfl) :
    PI X (.Tuple elts kk tpos) (.Call (.Name "enumerate" p) [e] [] pos) (iEnumT X.K ta) := by
  refine ⟨fun pins s σ H R I h => ?_⟩
  refine Call_ (ld_blt I hg hm boot_enumerate (PyProof.Rows.callWith_type1 (thn (ha.run pos pins s σ H _ I h) fun us s1 ⟨vs, H1, I1, r1, q1⟩ => ?_) hs rfl))
  obtain ⟨a, xs, ex, hq, q⟩ := q1
  subst ex
  cases r1 with
  | cons r rr =>
    cases rr
    cases r
    obtain ⟨its, rv, p', hz⟩ := I1.tuple hq
    have pT : s1.heap.IsTuple a its.toArray := p'
    have al : a < s1.heap.objs.size := by obtain ⟨_, q, _⟩ := pT; exact Heap.lt_size q
    refine call_enumerate_tuple pT fun h' he hit hsz hk => wpAny_pyIter_enum he ?_
    have I2 : Inv X pins σ H1 { s1 with heap := h' } := I1.kept (t' := s1.toks) hk
    refine ⟨s1.heap.objs.size + 1, [s1.heap.objs.size + 1, s1.heap.objs.size], _, _, H1, rfl, I2, turn_enumT a (s1.heap.objs.size + 1) s1.heap.objs.size, ⟨⟨.none, he⟩, hit, Nat.succ_ne_self _, Nat.ne_of_lt al, Nat.ne_of_lt (Nat.lt_succ_of_lt al)⟩, fun b hb => ?_, q⟩
    have e' : b = s1.heap.objs.size + 1 ∨ b = s1.heap.objs.size := by simpa using hb
    have hle : s1.heap.objs.size ≤ b := by
      rcases e' with z | z
      · rw [z]; exact Nat.le_add_right _ _
      · rw [z]; exact Nat.le_refl _
    exact I1.fpOk hle (I1.hok.fresh hle)

/-! ### enumerate of a tuple, of a list -/
def enumD (ds : List PyData) : List PyData := ds.zipIdx.map fun p => .tuple [.int (p.2 : Nat), p.1]
theorem enumD_get {ds : List PyData} {i : Nat} {d : PyData} (h : (enumD ds)[i]? = some d) : ∃ x, ds[i]? = some x ∧ d = .tuple [.int (i : Nat), x] := by
  unfold enumD at h
  rw [List.getElem?_map, List.getElem?_zipIdx] at h
  cases e : ds[i]? with
  | none => rw [e] at h; cases h
  | some x =>
    rw [e] at h
    cases h
    exact ⟨x, rfl, by simp⟩
theorem enumD_len (ds : List PyData) : (enumD ds).length = ds.length := by simp [enumD]
def iEt (m : MX) : MI := fun Γ => (m Γ).bind fun r => match r.1 with
  | .tuple ds => some (enumD ds, any_, r.2)
  | _ => none
def iEl (m : MX) : MI := fun Γ => (m Γ).bind fun r => match r.1 with
  | .list ds => some (enumD ds, any_, r.2)
  | _ => none
theorem calm_et {m : MX} : Calm (iEt m) := by
  intro Γ ds kp Γ' e
  obtain ⟨⟨d, Γ1⟩, e1, e⟩ := Option.bind_eq_some_iff.mp e
  dsimp only at e
  split at e <;> cases e
  rfl
theorem calm_el {m : MX} : Calm (iEl m) := by
  intro Γ ds kp Γ' e
  obtain ⟨⟨d, Γ1⟩, e1, e⟩ := Option.bind_eq_some_iff.mp e
  dsimp only at e
  split at e <;> cases e
  rfl
theorem evi_et {K : PySem.W.Frag} {ta : TE} {m : MX} (h : EvX ta m) : EvI (iEnumT K (tCons ta tNil)) [] (iEt m) := by
  intro a c σ Γ R F H s ds kp Γ' e Rj q
  obtain ⟨⟨d1, Γ1⟩, e1, e⟩ := Option.bind_eq_some_iff.mp e
  dsimp only at e
  split at e
  · rename_i xs
    cases e
    refine h a c σ Γ R F H s _ _ e1 _ fun v F1 H1 x1 s1 k1 => ?_
    cases k1 with
    | tup p1 a1 =>
      rename_i p vs
      refine ⟨_, _, rfl, .inl (.inl (s1.ex _ _ p1)), q _ (fun F3 H3 => Ex F1 F3 ∧ Ex F3 H3) F1 H1 x1 s1 ?_ fun σ2 Γ2 R2 F3 H3 x3 s3 _ _ => ⟨x3, s3.ex⟩⟩
      rintro F3 H3 ⟨x3, w3⟩
      have q1 : SqT K H3 p vs := .inl (.inl (w3 _ _ (x3 _ _ p1)))
      refine ⟨fun i d e => ?_, ⟨_, q1, a1.length.trans (enumD_len _).symm⟩⟩
      obtain ⟨x, g1, rfl⟩ := enumD_get e
      obtain ⟨vx, f1, h1⟩ := a1.get g1
      refine ⟨⟨_, vx, q1, f1⟩, fun z H4 w => .inr ?_⟩
      obtain ⟨T, x', rfl, nT, rfl, w1⟩ := w
      have g1 := (w1 _ q1).symm.trans f1
      cases g1
      have xT : Ex F3 (upd F3 T (.tup [.int (i : Nat), vx])) := Ex.new (w3.none nT)
      exact .inl ⟨T, _, nT, rfl, .tup upd_same (.cons (.int _) (.cons (h1.mono (x3.trans xT)) .nil))⟩
  · cases e
theorem evi_el {K : PySem.W.Frag} {ta : TE} {m : MX} (h : EvX ta m) : EvI (iEnum K (tCons ta tNil)) [] (iEl m) := by
  intro a c σ Γ R F H s ds kp Γ' e Rj q
  obtain ⟨⟨d1, Γ1⟩, e1, e⟩ := Option.bind_eq_some_iff.mp e
  dsimp only at e
  split at e
  · rename_i xs
    cases e
    refine h a c σ Γ R F H s _ _ e1 _ fun v F1 H1 x1 s1 k1 => ?_
    cases k1 with
    | lst p1 a1 =>
      rename_i p vs
      refine ⟨_, _, rfl, .inl (.inl (s1.ex _ _ p1)), q _ (fun F3 H3 => Ex F1 F3 ∧ Ex F3 H3) F1 H1 x1 s1 ?_ fun σ2 Γ2 R2 F3 H3 x3 s3 _ _ => ⟨x3, s3.ex⟩⟩
      rintro F3 H3 ⟨x3, w3⟩
      have q1 : SqL K H3 p vs := .inl (.inl (w3 _ _ (x3 _ _ p1)))
      refine ⟨fun i d e => ?_, ⟨_, q1, Nat.le_of_eq (a1.length.trans (enumD_len _).symm)⟩⟩
      obtain ⟨x, g1, rfl⟩ := enumD_get e
      obtain ⟨vx, f1, h1⟩ := a1.get g1
      refine ⟨⟨_, vx, q1, f1⟩, fun z H4 w => .inr ?_⟩
      obtain ⟨T, x', rfl, nT, rfl, w1⟩ := w
      have g1 := (w1 _ q1).symm.trans f1
      cases g1
      have xT : Ex F3 (upd F3 T (.tup [.int (i : Nat), vx])) := Ex.new (w3.none nT)
      exact .inl ⟨T, _, nT, rfl, .tup upd_same (.cons (.int _) (.cons (h1.mono (x3.trans xT)) .nil))⟩
  · cases e
section
variable {X : Cx} {e : Expr} {m : MX} {pos tpos : Pos} {elts : List Expr} {kk : Nat}
theorem i_enumT (hg : Gl X "enumerate") (hm : X.mg "enumerate" = none) (h : PX X e m) (hs : starEach [e] X.env = [(false, eval e X.env)] := by rfl) {p : Pos} : PIx X (.Tuple elts kk tpos) (.Call (.Name "enumerate" p) [e] [] pos) [] (iEt m) :=
  let ⟨_, a, b⟩ := h; ⟨_, pi_enumT hg hm (pa_cons a pa_nil hs) hs, evi_et b⟩
theorem i_enumL (hg : Gl X "enumerate") (hm : X.mg "enumerate" = none) (h : PX X e m) (hs : starEach [e] X.env = [(false, eval e X.env)] := by rfl) {p : Pos} : PIx X (.Tuple elts kk tpos) (.Call (.Name "enumerate" p) [e] [] pos) [] (iEl m) :=
  let ⟨_, a, b⟩ := h; ⟨_, pi_enum hg hm (pa_cons a pa_nil hs) hs, evi_el b⟩
end
end MM


namespace MM
open PySem PySem.Spec PyProof.Rows L2
variable [Tb]

/-! ### dicts of one's own: keys that are ints and texts (dK), keys that are tuples of such (dT) -/
section
variable {κ : Type} [DecidableEq κ]
def getD' (kvs : List (κ × PyData)) (k : κ) : Option PyData := (kvs.find? fun kv => decide (kv.1 = k)).map (·.2)
def putD (kvs : List (κ × PyData)) (k : κ) (v : PyData) : List (κ × PyData) :=
  if (kvs.any fun kv => decide (kv.1 = k)) = true then kvs.map (fun kv => if kv.1 = k then (kv.1, v) else kv) else kvs ++ [(k, v)]
theorem KD.len {F : Hp} : ∀ {l : List (κ × PyData)} {m : List (κ × V)}, KD F l m → l.length = m.length
  | _, _, .nil => rfl
  | _, _, .cons _ t => congrArg (· + 1) (KD.len t)
theorem KD.find {F : Hp} (k : κ) : ∀ {l : List (κ × PyData)} {m : List (κ × V)}, KD F l m → (∃ d v, getD' l k = some d ∧ valV m k = some v ∧ Da F v d) ∨ (getD' l k = none ∧ valV m k = none)
  | _, _, .nil => .inr ⟨rfl, rfl⟩
  | p :: l, q :: m, .cons h t => by
    unfold getD' valV
    by_cases e : p.1 = k
    · have e' : q.1 = k := h.1 ▸ e
      rw [List.find?_cons_of_pos (by simpa using e), List.find?_cons_of_pos (by simpa using e')]
      exact .inl ⟨_, _, rfl, rfl, h.2⟩
    · have e' : ¬ q.1 = k := fun z => e (h.1.trans z)
      rw [List.find?_cons_of_neg (by simpa using e), List.find?_cons_of_neg (by simpa using e')]
      exact KD.find k t
theorem KD.any {F : Hp} (k : κ) : ∀ {l : List (κ × PyData)} {m : List (κ × V)}, KD F l m → (l.any fun kv => decide (kv.1 = k)) = m.any fun kv => decide (kv.1 = k)
  | _, _, .nil => rfl
  | p :: l, q :: m, .cons h t => by
    rw [List.any_cons, List.any_cons, KD.any k t, h.1]
theorem KD.map {F : Hp} (k : κ) {d : PyData} {v : V} (hd : Da F v d) : ∀ {l : List (κ × PyData)} {m : List (κ × V)}, KD F l m → KD F (l.map fun kv => if kv.1 = k then (kv.1, d) else kv) (m.map fun kv => if kv.1 = k then (kv.1, v) else kv)
  | _, _, .nil => .nil
  | p :: l, q :: m, .cons h t => by
    refine .cons ?_ (KD.map k hd t)
    by_cases e : p.1 = k
    · dsimp only
      rw [if_pos e, if_pos (h.1 ▸ e)]
      exact ⟨h.1, hd⟩
    · dsimp only
      rw [if_neg e, if_neg (fun z => e (h.1.trans z))]
      exact h
theorem KD.snoc {F : Hp} {k : κ} {d : PyData} {v : V} (hd : Da F v d) : ∀ {l : List (κ × PyData)} {m : List (κ × V)}, KD F l m → KD F (l ++ [(k, d)]) (m ++ [(k, v)])
  | _, _, .nil => .cons ⟨rfl, hd⟩ .nil
  | _, _, .cons h t => .cons h (KD.snoc hd t)
theorem KD.put {F : Hp} {k : κ} {d : PyData} {v : V} (hd : Da F v d) {l : List (κ × PyData)} {m : List (κ × V)} (h : KD F l m) : KD F (putD l k d) (putK m k v) := by
  unfold putD putK
  rw [h.any k]
  split
  · exact h.map k hd
  · exact h.snoc hd
end
def key1 : PyData → Option L2.Key
  | .int i => some (.inl i)
  | .str x => some (.inr x)
  | _ => none
def keys1 : List PyData → Option (List L2.Key)
  | [] => some []
  | d :: r => (key1 d).bind fun k => (keys1 r).bind fun ks => some (k :: ks)
def keyT : PyData → Option (List L2.Key)
  | .tuple ds => keys1 ds
  | _ => none
def unkey : L2.Key → PyData
  | .inl i => .int i
  | .inr x => .str x
theorem key1_da {F : Hp} {v : V} {d : PyData} {k : L2.Key} (h : Da F v d) (e : key1 d = some k) : v = kV k := by
  cases h <;> first | (cases e; rfl) | cases e
theorem keys1_da {F : Hp} : ∀ {ds : List PyData} {vs : List V} {ks : List L2.Key}, DaAll F vs ds → keys1 ds = some ks → vs = ks.map kV
  | [], _, _, h, e => by
    cases h
    cases e
    rfl
  | d :: r, _, _, h, e => by
    cases h with
    | cons h t =>
      obtain ⟨k, e1, e⟩ := Option.bind_eq_some_iff.mp e
      obtain ⟨ks, e2, e⟩ := Option.bind_eq_some_iff.mp e
      cases e
      rw [key1_da h e1, keys1_da t e2]
      rfl
theorem da_key (F : Hp) (k : L2.Key) : Da F (kV k) (unkey k) := by cases k <;> first | exact .int _ | exact .str _
theorem da_keys (F : Hp) : ∀ ks : List L2.Key, DaAll F (ks.map kV) (ks.map unkey)
  | [] => .nil
  | k :: r => .cons (da_key F k) (da_keys F r)
section
variable {a c : Addr} {F F' H H' : Hp} {σ : L2.St} {Γ : Ga} {R : Own}
theorem Sta.set_dT {p : Addr} {kws : List (List L2.Key × V)} {kvs : List (List L2.Key × PyData)} (s : Sta a c σ Γ ((p, .dT kws) :: R) F H) {i : Nat} (hi : i < Γ.length) (h : KD F kvs kws) : Sta a c (σ.set i (some (.ref p))) (Γ.set i (.dT kvs)) R F H := by
  obtain ⟨O, r, w⟩ := s.st
  obtain ⟨x, o, O', e1, c1, p1, k1⟩ := r.at (List.getElem?_eq_getElem hi)
  obtain ⟨O2, r2, p2⟩ := k1 (some (.ref p)) (.dT kvs) [(p, .dT kws)] (.dT h)
  refine ⟨O2, r2, ?_⟩
  have w1 : Wd F (o ++ (O' ++ (p, .dT kws) :: R)) H := w.perm (by rw [← List.append_assoc]; exact p1.append_right _)
  refine w1.drop.perm ?_
  refine List.perm_middle.trans ?_
  exact (p2.symm.append_right R)
theorem Sta.set_dK {p : Addr} {kws : List (L2.Key × V)} {kvs : List (L2.Key × PyData)} (s : Sta a c σ Γ ((p, .dK kws) :: R) F H) {i : Nat} (hi : i < Γ.length) (h : KD F kvs kws) : Sta a c (σ.set i (some (.ref p))) (Γ.set i (.dK kvs)) R F H := by
  obtain ⟨O, r, w⟩ := s.st
  obtain ⟨x, o, O', e1, c1, p1, k1⟩ := r.at (List.getElem?_eq_getElem hi)
  obtain ⟨O2, r2, p2⟩ := k1 (some (.ref p)) (.dK kvs) [(p, .dK kws)] (.dK h)
  refine ⟨O2, r2, ?_⟩
  have w1 : Wd F (o ++ (O' ++ (p, .dK kws) :: R)) H := w.perm (by rw [← List.append_assoc]; exact p1.append_right _)
  refine w1.drop.perm ?_
  refine List.perm_middle.trans ?_
  exact (p2.symm.append_right R)
theorem set_self {σ : L2.St} {i : Nat} {v : V} (e1 : σ[i]? = some (some v)) : σ.set i (some v) = σ := by
  apply List.ext_getElem?
  intro j
  by_cases q : i = j
  · subst q
    rw [List.getElem?_set_self (List.getElem?_eq_some_iff.mp e1).1, e1]
  · rw [List.getElem?_set_ne q]
theorem Sta.get_dT (s : Sta a c σ Γ R F H) {i : Nat} {kvs : List (List L2.Key × PyData)} (e : Γ[i]? = some (.dT kvs)) : ∃ p kws, σ[i]? = some (some (.ref p)) ∧ H p = some (.dT kws) ∧ KD F kvs kws ∧
    ∀ kws' kvs', KD F kvs' kws' → Sta a c σ (Γ.set i (.dT kvs')) R F (upd H p (.dT kws')) := by
  obtain ⟨O, r, w⟩ := s.st
  obtain ⟨x, o, O', e1, c1, p1, k1⟩ := r.at e
  cases c1 with
  | dT h =>
    rename_i p vs
    have w1 : Wd F ((p, .dT vs) :: (O' ++ R)) H := w.perm (by
      have := p1.append_right R
      simpa using this)
    refine ⟨p, vs, e1, (w1.own _ (List.mem_cons_self ..)).1, h, fun vs' ds' h' => ?_⟩
    obtain ⟨O2, r2, p2⟩ := k1 (some (.ref p)) (.dT ds') [(p, .dT vs')] (.dT h')
    rw [set_self e1] at r2
    refine ⟨O2, r2, w1.put.perm ?_⟩
    have := p2.symm.append_right R
    simpa using this
theorem Sta.get_dK (s : Sta a c σ Γ R F H) {i : Nat} {kvs : List (L2.Key × PyData)} (e : Γ[i]? = some (.dK kvs)) : ∃ p kws, σ[i]? = some (some (.ref p)) ∧ H p = some (.dK kws) ∧ KD F kvs kws ∧
    ∀ kws' kvs', KD F kvs' kws' → Sta a c σ (Γ.set i (.dK kvs')) R F (upd H p (.dK kws')) := by
  obtain ⟨O, r, w⟩ := s.st
  obtain ⟨x, o, O', e1, c1, p1, k1⟩ := r.at e
  cases c1 with
  | dK h =>
    rename_i p vs
    have w1 : Wd F ((p, .dK vs) :: (O' ++ R)) H := w.perm (by
      have := p1.append_right R
      simpa using this)
    refine ⟨p, vs, e1, (w1.own _ (List.mem_cons_self ..)).1, h, fun vs' ds' h' => ?_⟩
    obtain ⟨O2, r2, p2⟩ := k1 (some (.ref p)) (.dK ds') [(p, .dK vs')] (.dK h')
    rw [set_self e1] at r2
    refine ⟨O2, r2, w1.put.perm ?_⟩
    have := p2.symm.append_right R
    simpa using this
end
/-! {} -/
def sNewT (i : Nat) : MS := fun Γ => if i < Γ.length then some (.nx, Γ.set i (.dT [])) else none
def sNewK (i : Nat) : MS := fun Γ => if i < Γ.length then some (.nx, Γ.set i (.dK [])) else none
theorem evs_newT (i : Nat) : EvS (tAsg tDNewT (gName i)) (sNewT i) := by
  intro a c σ Γ R F H s fl Γ' e D k
  unfold sNewT at e
  split at e
  · rename_i hi
    cases e
    exact fun p hp => k _ F _ (Ex.refl F) ((s.mine (o := .dT []) hp).set_dT hi .nil)
  · cases e
theorem evs_newK (i : Nat) : EvS (tAsg tDNewK (gName i)) (sNewK i) := by
  intro a c σ Γ R F H s fl Γ' e D k
  unfold sNewK at e
  split at e
  · rename_i hi
    cases e
    exact fun p hp => k _ F _ (Ex.refl F) ((s.mine (o := .dK []) hp).set_dK hi .nil)
  · cases e
/-! d[k] = v, d[k], k in d -/
def isDc (i : Nat) (Γ : Ga) : Option Unit := match Γ[i]? with
  | some (.dT _) => some ()
  | some (.dK _) => some ()
  | _ => none
theorem Sta.isDc {a c : Addr} {F H : Hp} {σ : L2.St} {Γ : Ga} {R : Own} (s : Sta a c σ Γ R F H) {i : Nat} {u : Unit} (h : MM.isDc i Γ = some u) : ∃ p, σ[i]? = some (some (.ref p)) := by
  unfold MM.isDc at h
  split at h
  · obtain ⟨p, _, e, _⟩ := s.get_dT (by assumption)
    exact ⟨p, e⟩
  · obtain ⟨p, _, e, _⟩ := s.get_dK (by assumption)
    exact ⟨p, e⟩
  · cases h
/-- a key tuple's object -/
theorem keyT_da {F : Hp} {v : V} {d : PyData} {k : List L2.Key} (h : Da F v d) (e : keyT d = some k) : ∃ b, v = .ref b ∧ F b = some (.tup (k.map kV)) := by
  unfold keyT at e
  split at e
  · cases h with
    | tup hp ha =>
      rw [keys1_da ha e] at hp
      exact ⟨_, rfl, hp⟩
  · cases e
def sDPt (i : Nat) (mk mv : MX) : MS := fun Γ => (mv Γ).bind fun r => (isDc i r.2).bind fun _ => (mk r.2).bind fun t => match t.2[i]? with
  | some (.dT kvs) => (fit kvs.length ()).bind fun _ => (keyT t.1).bind fun k => some (.nx, t.2.set i (.dT (putD kvs k r.1)))
  | some (.dK kvs) => (fit kvs.length ()).bind fun _ => (key1 t.1).bind fun k => some (.nx, t.2.set i (.dK (putD kvs k r.1)))
  | _ => none
theorem evs_dput {i : Nat} {tk tv : TE} {mk mv : MX} (hk : EvX tk mk) (hv : EvX tv mv) : EvS (sDPut (tVar i) tk tv) (sDPt i mk mv) := by
  intro a c σ Γ R F H s fl Γ' e D k
  obtain ⟨⟨d1, Γ1⟩, e1, e⟩ := Option.bind_eq_some_iff.mp e
  obtain ⟨_, e0, e⟩ := Option.bind_eq_some_iff.mp e
  obtain ⟨⟨d2, Γ2⟩, e2, e⟩ := Option.bind_eq_some_iff.mp e
  refine hv a c σ Γ R F H s d1 Γ1 e1 _ fun v F1 H1 x1 s1 k1 => ?_
  obtain ⟨p, hp⟩ := s1.isDc e0
  refine ⟨.ref p, hp, hk a c σ Γ1 R F1 H1 s1 d2 Γ2 e2 _ fun u F2 H2 x2 s2 k2 => ?_⟩
  dsimp only at e
  split at e
  · rename_i kvs g
    obtain ⟨_, e3, e⟩ := Option.bind_eq_some_iff.mp e
    obtain ⟨kk, e4, e⟩ := Option.bind_eq_some_iff.mp e
    cases e
    obtain ⟨p', kws, h1, h2, h3, up⟩ := s2.get_dT g
    rw [hp] at h1
    cases h1
    obtain ⟨b, rfl, hb⟩ := keyT_da k2 e4
    refine ⟨p, _, rfl, DPut.t h2 (s2.ex _ _ hb) (by rw [← h3.len]; exact lim_lt (fit_some e3).1), ?_⟩
    exact k σ F2 _ (x1.trans x2) (up _ _ (h3.put (k1.mono x2)))
  · rename_i kvs g
    obtain ⟨_, e3, e⟩ := Option.bind_eq_some_iff.mp e
    obtain ⟨kk, e4, e⟩ := Option.bind_eq_some_iff.mp e
    cases e
    obtain ⟨p', kws, h1, h2, h3, up⟩ := s2.get_dK g
    rw [hp] at h1
    cases h1
    have eu := key1_da k2 e4
    subst eu
    refine ⟨p, _, rfl, DPut.k h2 (by rw [← h3.len]; exact lim_lt (fit_some e3).1), ?_⟩
    exact k σ F2 _ (x1.trans x2) (up _ _ (h3.put (k1.mono x2)))
  · cases e
/-- what stands under a key -/
def askD (Γ : Ga) (i : Nat) (d : PyData) : Option (Option PyData) := match Γ[i]? with
  | some (.dT kvs) => (keyT d).bind fun k => some (getD' kvs k)
  | some (.dK kvs) => (key1 d).bind fun k => some (getD' kvs k)
  | _ => none
theorem Sta.ask {a c : Addr} {F H : Hp} {σ : L2.St} {Γ : Ga} {R : Own} (s : Sta a c σ Γ R F H) {i : Nat} {p : Addr} (hp : σ[i]? = some (some (.ref p))) {u : V} {d : PyData} (hu : Da F u d) {o : Option PyData} (e : askD Γ i d = some o) :
    (∃ e v, o = some e ∧ Da F v e ∧ DGet H p u (some v)) ∨ (o = none ∧ DGet H p u none) := by
  unfold askD at e
  split at e
  · rename_i kvs g
    obtain ⟨kk, e4, e⟩ := Option.bind_eq_some_iff.mp e
    cases e
    obtain ⟨p', kws, h1, h2, h3, up⟩ := s.get_dT g
    rw [hp] at h1
    cases h1
    obtain ⟨b, rfl, hb⟩ := keyT_da hu e4
    have dg := DGet.t (k := kk) h2 (s.ex _ _ hb)
    rcases h3.find kk with ⟨d, v, f1, f2, f3⟩ | ⟨f1, f2⟩
    · rw [f2] at dg
      exact .inl ⟨d, v, f1, f3, dg⟩
    · rw [f2] at dg
      exact .inr ⟨f1, dg⟩
  · rename_i kvs g
    obtain ⟨kk, e4, e⟩ := Option.bind_eq_some_iff.mp e
    cases e
    obtain ⟨p', kws, h1, h2, h3, up⟩ := s.get_dK g
    rw [hp] at h1
    cases h1
    have eu := key1_da hu e4
    subst eu
    have dg := DGet.k (k := kk) h2
    rcases h3.find kk with ⟨d, v, f1, f2, f3⟩ | ⟨f1, f2⟩
    · rw [f2] at dg
      exact .inl ⟨d, v, f1, f3, dg⟩
    · rw [f2] at dg
      exact .inr ⟨f1, dg⟩
  · cases e
def mDGet (i : Nat) (m : MX) : MX := fun Γ => (isDc i Γ).bind fun _ => (m Γ).bind fun r => (askD r.2 i r.1).bind fun o => o.bind fun d => some (d, r.2)
theorem evx_dget {i : Nat} {ty : TE} {m : MX} (h : EvX ty m) : EvX (tDGet (tVar i) ty) (mDGet i m) := by
  intro a c σ Γ R F H s d Γ' e Q q
  obtain ⟨_, e0, e⟩ := Option.bind_eq_some_iff.mp e
  obtain ⟨⟨d1, Γ1⟩, e1, e⟩ := Option.bind_eq_some_iff.mp e
  obtain ⟨o, e2, e⟩ := Option.bind_eq_some_iff.mp e
  obtain ⟨d2, e3, e⟩ := Option.bind_eq_some_iff.mp e
  cases e
  obtain ⟨p, hp⟩ := s.isDc e0
  refine ⟨.ref p, hp, h a c σ Γ R F H s d1 _ e1 _ fun u F1 H1 x1 s1 k1 => ?_⟩
  rcases s1.ask hp k1 e2 with ⟨e', v, f1, f2, f3⟩ | ⟨f1, _⟩
  · rw [f1] at e3
    cases e3
    exact ⟨p, v, rfl, f3, q v F1 H1 x1 s1 f2⟩
  · rw [f1] at e3
    cases e3
def mInD (neg : Bool) (m : MX) (i : Nat) : MX := fun Γ => (m Γ).bind fun r => (askD r.2 i r.1).bind fun o => some (.bool (if neg then !o.isSome else o.isSome), r.2)
theorem askD_dc {Γ : Ga} {i : Nat} {d : PyData} {o : Option PyData} (e : askD Γ i d = some o) : isDc i Γ = some () := by
  unfold askD at e
  unfold isDc
  split at e
  · rfl
  · rfl
  · cases e
theorem evx_din {i : Nat} {ty : TE} {m : MX} (h : EvX ty m) : EvX (tDIn ty (tVar i)) (mInD false m i) := by
  intro a c σ Γ R F H s d Γ' e Q q
  obtain ⟨⟨d1, Γ1⟩, e1, e⟩ := Option.bind_eq_some_iff.mp e
  obtain ⟨o, e2, e⟩ := Option.bind_eq_some_iff.mp e
  cases e
  refine h a c σ Γ R F H s d1 _ e1 _ fun u F1 H1 x1 s1 k1 => ?_
  obtain ⟨p, hp⟩ := s1.isDc (askD_dc e2)
  refine ⟨.ref p, hp, ?_⟩
  rcases s1.ask hp k1 e2 with ⟨e', v, rfl, f2, f3⟩ | ⟨rfl, f3⟩
  · exact ⟨p, some v, rfl, f3, q _ F1 H1 x1 s1 (.bl true)⟩
  · exact ⟨p, none, rfl, f3, q _ F1 H1 x1 s1 (.bl false)⟩
theorem evx_dnin {i : Nat} {ty : TE} {m : MX} (h : EvX ty m) : EvX (tDNotIn ty (tVar i)) (mInD true m i) := by
  intro a c σ Γ R F H s d Γ' e Q q
  obtain ⟨⟨d1, Γ1⟩, e1, e⟩ := Option.bind_eq_some_iff.mp e
  obtain ⟨o, e2, e⟩ := Option.bind_eq_some_iff.mp e
  cases e
  refine h a c σ Γ R F H s d1 _ e1 _ fun u F1 H1 x1 s1 k1 => ?_
  obtain ⟨p, hp⟩ := s1.isDc (askD_dc e2)
  refine ⟨.ref p, hp, ?_⟩
  rcases s1.ask hp k1 e2 with ⟨e', v, rfl, f2, f3⟩ | ⟨rfl, f3⟩
  · exact ⟨p, some v, rfl, f3, q _ F1 H1 x1 s1 (.bl false)⟩
  · exact ⟨p, none, rfl, f3, q _ F1 H1 x1 s1 (.bl true)⟩
/-! len(d), list(d) -/
def mLenT (i : Nat) : MX := fun Γ => match Γ[i]? with
  | some (.dT kvs) => some (.int kvs.length, Γ)
  | _ => none
def mLenK (i : Nat) : MX := fun Γ => match Γ[i]? with
  | some (.dK kvs) => some (.int kvs.length, Γ)
  | _ => none
theorem evx_lenT {i : Nat} : EvX (tCB L2.rLenT (tCons (tVar i) tNil)) (mLenT i) := by
  intro a c σ Γ R F H s d Γ' e Q q
  unfold mLenT at e
  split at e
  · rename_i kvs g
    cases e
    obtain ⟨p, kws, h1, h2, h3, up⟩ := s.get_dT g
    refine ⟨_, h1, p, kws, rfl, h2, ?_⟩
    rw [← h3.len]
    exact q _ F H (Ex.refl F) s (.int _)
  · cases e
theorem evx_lenK {i : Nat} : EvX (tCB (fun xs H Q => ∃ a kvs, xs = [V.ref a] ∧ H a = some (.dK kvs) ∧ Q (.int kvs.length) H) (tCons (tVar i) tNil)) (mLenK i) := by
  intro a c σ Γ R F H s d Γ' e Q q
  unfold mLenK at e
  split at e
  · rename_i kvs g
    cases e
    obtain ⟨p, kws, h1, h2, h3, up⟩ := s.get_dK g
    refine ⟨_, h1, p, kws, rfl, h2, ?_⟩
    rw [← h3.len]
    exact q _ F H (Ex.refl F) s (.int _)
  · cases e
theorem Sta.knows {a c : Addr} {σ : L2.St} {Γ : Ga} {R : Own} {H : Hp} : ∀ {kws : List (List L2.Key × V)} {bs : List Addr} {F : Hp}, Sta a c σ Γ R F H → IsKeys H kws bs → ∃ F', Ex F F' ∧ Sta a c σ Γ R F' H ∧ DaAll F' (bs.map V.ref) (kws.map fun p => .tuple (p.1.map unkey))
  | _, _, F, s, .nil => ⟨F, Ex.refl F, s, .nil⟩
  | p :: kws, b :: bs, F, s, .cons h t => by
    obtain ⟨F1, x1, s1, d1⟩ := Sta.knows s t
    obtain ⟨s2, x2⟩ := s1.know h
    exact ⟨_, x1.trans x2, s2, .cons (.tup upd_same (da_keys _ _)) (d1.mono x2)⟩
theorem KD.keys {κ : Type} {F : Hp} {f : κ → PyData} : ∀ {l : List (κ × PyData)} {m : List (κ × V)}, KD F l m → (m.map fun p => f p.1) = l.map fun p => f p.1
  | _, _, .nil => rfl
  | _, _, .cons h t => by
    rw [List.map_cons, List.map_cons, KD.keys t, h.1]
def lKeysT (i : Nat) : ML := fun Γ => match Γ[i]? with
  | some (.dT kvs) => some (kvs.map fun p => .tuple (p.1.map unkey), Γ)
  | _ => none
theorem evl_keysT {i : Nat} : EvL (tCB (fun xs H Q => ∃ d kvs, xs = [V.ref d] ∧ Rd H d (.dT kvs) ∧ ∀ p bs, H p = none → IsKeys H kvs bs → Q (.ref p) (upd H p (.lst (bs.map V.ref)))) (tCons (tVar i) tNil)) (lKeysT i) := by
  intro a c σ Γ R F H s d Γ' e Q q
  unfold lKeysT at e
  split at e
  · rename_i kvs g
    cases e
    obtain ⟨p, kws, h1, h2, h3, up⟩ := s.get_dT g
    refine ⟨_, h1, p, kws, rfl, .inl h2, fun l bs hl hk => ?_⟩
    obtain ⟨F1, x1, s1, d1⟩ := s.knows hk
    rw [h3.keys (f := fun k => PyData.tuple (k.map unkey))] at d1
    exact q _ _ F1 _ x1 (s1.mine hl) d1
  · cases e
section
variable {X : Cx} {e e1 : Expr} {m n : MX} {pos pos' p1 p2 : Pos} {x : Str}
theorem s_newT (i : Nat) (hN : X.N.Nodup) (hi : X.N[i]? = some x := by rfl) (hx : Loc X.env.scope x := by first | exact Or.inl rfl | exact Or.inr rfl) (hs : swapsWith (.Dict [] [] p1) (some (.Name x pos')) pos.line X.env = pure false := by rfl)
    (hf : X.fn x = true ∨ X.env.scope.names.lookup x = some .local := by first | exact .inl rfl | exact .inr rfl) : PS1 X (.Assign [.Name x pos'] (.Dict [] [] p1) pos) (sNewT i) := ⟨_, ps_set hN hi hx pe_dnewT hs hf, evs_newT i⟩
theorem s_newK (i : Nat) (hN : X.N.Nodup) (hi : X.N[i]? = some x := by rfl) (hx : Loc X.env.scope x := by first | exact Or.inl rfl | exact Or.inr rfl) (hs : swapsWith (.Dict [] [] p1) (some (.Name x pos')) pos.line X.env = pure false := by rfl)
    (hf : X.fn x = true ∨ X.env.scope.names.lookup x = some .local := by first | exact .inl rfl | exact .inr rfl) : PS1 X (.Assign [.Name x pos'] (.Dict [] [] p1) pos) (sNewK i) := ⟨_, ps_set hN hi hx pe_dnewK hs hf, evs_newK i⟩
theorem s_dput (i : Nat) (hu : X.A.units + 1 < cLine) (hk : PX X e m) (hv : PX X e1 n) (hN : X.N[i]? = some x := by rfl) (hvis : Vis X.env.scope x := by first | exact Or.inl rfl | exact Or.inr (Or.inl rfl) | exact Or.inr (Or.inr rfl)) (hd : (x == ("__debug__" : Str)) = false := by decide)
    (hcd : (x == ("__classdict__" : Str)) = false := by decide) (hs : swapsWith e1 (some (.Subscript (.Name x p1) e pos')) pos.line X.env = pure false := by rfl) : PS1 X (.Assign [.Subscript (.Name x p1) e pos'] e1 pos) (sDPt i m n) :=
  let ⟨_, a, b⟩ := hk; let ⟨_, c, d⟩ := hv; ⟨_, ps_dput hu (pe_var hN hvis hd hcd) a c hs, evs_dput b d⟩
theorem x_dget (i : Nat) (hu : X.A.units + 1 < cLine) (h : PX X e m) (hN : X.N[i]? = some x := by rfl) (hv : Vis X.env.scope x := by first | exact Or.inl rfl | exact Or.inr (Or.inl rfl) | exact Or.inr (Or.inr rfl)) (hd : (x == ("__debug__" : Str)) = false := by decide)
    (hcd : (x == ("__classdict__" : Str)) = false := by decide) (hs : NoSl e := by exact fun _ _ => rfl) : PX X (.Subscript (.Name x p1) e pos) (mDGet i m) := let ⟨_, a, b⟩ := h; ⟨_, pe_dget hu (pe_var hN hv hd hcd) a hs, evx_dget b⟩
theorem x_ind (hu : X.A.units + 1 < cLine) (h : PX X e m) (i : Nat) (hN : X.N[i]? = some x := by rfl) (hv : Vis X.env.scope x := by first | exact Or.inl rfl | exact Or.inr (Or.inl rfl) | exact Or.inr (Or.inr rfl)) (hd : (x == ("__debug__" : Str)) = false := by decide)
    (hcd : (x == ("__classdict__" : Str)) = false := by decide) : PX X (.Compare e [.In] [.Name x p1] pos) (mInD false m i) := let ⟨_, a, b⟩ := h; ⟨_, pe_cmp (pc_din hu a (pe_var hN hv hd hcd)), evx_din b⟩
theorem x_nind (hu : X.A.units + 1 < cLine) (h : PX X e m) (i : Nat) (hN : X.N[i]? = some x := by rfl) (hv : Vis X.env.scope x := by first | exact Or.inl rfl | exact Or.inr (Or.inl rfl) | exact Or.inr (Or.inr rfl)) (hd : (x == ("__debug__" : Str)) = false := by decide)
    (hcd : (x == ("__classdict__" : Str)) = false := by decide) : PX X (.Compare e [.NotIn] [.Name x p1] pos) (mInD true m i) := let ⟨_, a, b⟩ := h; ⟨_, pe_cmp (pc_dnotin hu a (pe_var hN hv hd hcd)), evx_dnin b⟩
theorem t_ind (hu : X.A.units + 1 < cLine) (h : PX X e m) (i : Nat) (hN : X.N[i]? = some x := by rfl) (hv : Vis X.env.scope x := by first | exact Or.inl rfl | exact Or.inr (Or.inl rfl) | exact Or.inr (Or.inr rfl)) (hd : (x == ("__debug__" : Str)) = false := by decide)
    (hcd : (x == ("__classdict__" : Str)) = false := by decide) : PTx X (.Compare e [.In] [.Name x p1] pos) (tX (mInD false m i)) := let ⟨_, a, b⟩ := h; ⟨_, pt_cmp (pc_din hu a (pe_var hN hv hd hcd)), evt_b (evx_din b)⟩
theorem t_nind (hu : X.A.units + 1 < cLine) (h : PX X e m) (i : Nat) (hN : X.N[i]? = some x := by rfl) (hv : Vis X.env.scope x := by first | exact Or.inl rfl | exact Or.inr (Or.inl rfl) | exact Or.inr (Or.inr rfl)) (hd : (x == ("__debug__" : Str)) = false := by decide)
    (hcd : (x == ("__classdict__" : Str)) = false := by decide) : PTx X (.Compare e [.NotIn] [.Name x p1] pos) (tX (mInD true m i)) := let ⟨_, a, b⟩ := h; ⟨_, pt_cmp (pc_dnotin hu a (pe_var hN hv hd hcd)), evt_b (evx_dnin b)⟩
theorem x_lenT (i : Nat) (hg : Gl X "len") (hm : X.mg "len" = none) (hN : X.N[i]? = some x := by rfl) (hv : Vis X.env.scope x := by first | exact Or.inl rfl | exact Or.inr (Or.inl rfl) | exact Or.inr (Or.inr rfl)) (hd : (x == ("__debug__" : Str)) = false := by decide)
    (hcd : (x == ("__classdict__" : Str)) = false := by decide) (he : starEach [.Name x p1] X.env = [(false, eval (.Name x p1) X.env)] := by rfl) : PX X (.Call (.Name "len" p2) [.Name x p1] [] pos) (mLenT i) := ⟨_, pe_callB L2.call_len_dT hg hm PySem.boot_len (pa_cons (pe_var hN hv hd hcd) pa_nil he) (by decide) (by decide) he rfl, evx_lenT⟩
theorem x_lenK (i : Nat) (hg : Gl X "len") (hm : X.mg "len" = none) (hN : X.N[i]? = some x := by rfl) (hv : Vis X.env.scope x := by first | exact Or.inl rfl | exact Or.inr (Or.inl rfl) | exact Or.inr (Or.inr rfl)) (hd : (x == ("__debug__" : Str)) = false := by decide)
    (hcd : (x == ("__classdict__" : Str)) = false := by decide) (he : starEach [.Name x p1] X.env = [(false, eval (.Name x p1) X.env)] := by rfl) : PX X (.Call (.Name "len" p2) [.Name x p1] [] pos) (mLenK i) := ⟨_, pe_callB call_lenD hg hm PySem.boot_len (pa_cons (pe_var hN hv hd hcd) pa_nil he) (by decide) (by decide) he rfl, evx_lenK⟩
theorem l_keysT (i : Nat) (hg : Gl X "list") (hm : X.mg "list" = none) (hc : X.calm = true) (hN : X.N[i]? = some x := by rfl) (hv : Vis X.env.scope x := by first | exact Or.inl rfl | exact Or.inr (Or.inl rfl) | exact Or.inr (Or.inr rfl)) (hd : (x == ("__debug__" : Str)) = false := by decide)
    (hcd : (x == ("__classdict__" : Str)) = false := by decide) (he : starEach [.Name x p1] X.env = [(false, eval (.Name x p1) X.env)] := by rfl) : PL X (.Call (.Name "list" p2) [.Name x p1] [] pos) (lKeysT i) := ⟨_, pe_callTy (call_list_dT hc) hg hm (by decide +kernel) (pa_cons (pe_var hN hv hd hcd) pa_nil he) (by decide) (by decide) he rfl, evl_keysT⟩
end
end MM


namespace MM
open PySem PySem.Spec PyProof.Rows L2
variable [Tb]

/-! ### keys that are tuples of tuples -/
section
variable {prog : Program} {w : World} {K : Type} [DecidableEq K] (knd : KeyKind prog w K)
inductive Nested (h : Heap) : List (List K) → List Value → Prop
  | nil : Nested h [] []
  | cons {k : List K} {b : Addr} {ks : List (List K)} {vs : List Value} : IsTupleKey knd h k b → Nested h ks vs → Nested h (k :: ks) (.ref b :: vs)
def IsNestKey (h : Heap) (ks : List (List K)) (a : Addr) : Prop := ∃ o items n, h.get? a = some o ∧ o.cls = .type "tuple" ∧ o.data = .seq items n ∧ Nested knd h ks items.toList
variable {knd}
theorem Nested.inj {h : Heap} {x y : List (List K)} {vs : List Value} (hx : Nested knd h x vs) (hy : Nested knd h y vs) : x = y := by
  induction hx generalizing y with
  | nil => cases hy; rfl
  | cons h1 _ ih =>
    cases hy with
    | cons h2 t2 => rw [h1.inj h2, ih t2]
theorem IsNestKey.typeIs {s : Shared} {ks : List (List K)} {a : Addr} (x : IsNestKey knd s.heap ks a) : s.TypeIs (.ref a) "tuple" := let ⟨o, _, _, ho, hc, _⟩ := x; ⟨o, ho, hc⟩
theorem IsNestKey.inj {h : Heap} {a : Addr} {x y : List (List K)} (hx : IsNestKey knd h x a) (hy : IsNestKey knd h y a) : x = y := by
  obtain ⟨o, items, n, ho, _, hd, hi⟩ := hx
  obtain ⟨o', items', n', ho', _, hd', hi'⟩ := hy
  obtain rfl : o = o' := Option.some.inj (ho.symm.trans ho')
  rw [hd] at hd'
  injection hd' with h1 _
  subst h1
  exact hi.inj hi'
theorem Nested.keeps {h h' : Heap} {ks : List (List K)} {vs : List Value} {d : Addr} {o : Obj} {es ep} (x : Nested knd h ks vs) (ho : h.get? d = some o) (hd : o.data = .dict es ep) (hs : Heap.SameBut d h h') : Nested knd h' ks vs := by
  induction x with
  | nil => exact .nil
  | cons h1 _ ih => exact .cons (h1.keeps ho hd hs) ih
theorem IsNestKey.keeps {h h' : Heap} {ks : List (List K)} {a d : Addr} {o : Obj} {es ep} (x : IsNestKey knd h ks a) (ho : h.get? d = some o) (hd : o.data = .dict es ep) (hs : Heap.SameBut d h h') : IsNestKey knd h' ks a := by
  obtain ⟨o', items, n, ho', hc, hd', hi⟩ := x
  have hne : a ≠ d := by
    rintro rfl
    obtain rfl : o' = o := Option.some.inj (ho'.symm.trans ho)
    rw [hd] at hd'; exact nomatch hd'
  exact ⟨o', items, n, (hs.2 a hne).trans ho', hc, hd', hi.keeps ho hd hs⟩
def nestHash (knd : KeyKind prog w K) (ks : List (List K)) : Int := reduceHash (Builtin.Tuple.tupleHashOf (ks.map (tupleKeyHash knd)))
def nestDraws (ks : List (List K)) : Nat := (ks.map fun k => k.length + 1).sum + 1
variable {A : Around} {E : Value → Shared → Prop} {s : Shared}
theorem wpAny_pyHash_nest {ks : List (List K)} {a : Addr} {Q : Int → Shared → Prop} (hu : A.units + 1 < cLine) (hk : IsNestKey knd s.heap ks a) (h : Q (nestHash knd ks) { s with toks := s.toks + nestDraws ks }) :
    wpAny (model prog w) A (pyHash (.ref a)) Q E s := by
  have hT := hk.typeIs
  obtain ⟨o, items, n, ho, _, hd, hi⟩ := hk
  unfold pyHash
  first | unfold pyHashByItsType | skip
  first | refine wpAny_bind (wpAny_cRoomFor_or (.inr (by omega)) ?_) | skip
  refine wpAny_bind (wpAny_specialOf hT F.slot_tuple_hash.lookup ?_)
  show wpAny _ _ (if (some (Value.builtin "tuple.__hash__") == some Value.none) = true then _ else _) Q E s
  rw [if_neg (by rw [beq_builtin_none]; exact Bool.false_ne_true)]
  refine wpAny_bind (wpAny_specialOf hT F.slot_tuple_hash.lookup ?_)
  show wpAny _ _ (callSpecialIfBoundUnlessNone? (.ref a) "__hash__" _ >>= _) Q E s
  refine wpAny_bind (wpAny_callSpecialIfBoundUnlessNone?_slot hT F.slot_tuple_hash (wpAny_call_entry F.slot_tuple_hash hT F.entry_tuple_hash ?_ (F.args_tuple_hash_1 _)))
  show wpAny _ _ (Builtin.Tuple.tupleItemsOf (.ref a) >>= _) _ _ s
  refine wpAny_bind (wpAny_tupleItemsOf ho hd ?_)
  refine wpAny_bind ?_
  rw [← Array.forIn_toList]
  refine wpAny_forIn_list _
    (fun rest (b : Array Int) s' => ∃ done left, ks = done ++ left ∧ Nested knd s.heap left rest ∧ b.toList = done.map (tupleKeyHash knd) ∧ s' = { s with toks := s.toks + (done.map fun k => k.length + 1).sum })
    _ ?_ ?_ _ _ ⟨[], ks, rfl, hi, rfl, rfl⟩
  · rintro x rest b s' ⟨done, left, rfl, hl, hb, rfl⟩
    cases hl with
    | @cons k _ ks' _ h1 hl' =>
      refine wpAny_bind (wpAny_pyHash_tuple (knd := knd) (by first | exact hu | (show A.units + 1 < cLine; exact hu) | (simp only [Around.in1]; omega)) h1 ?_)
      first
        | exact wpAny_pure ⟨done ++ [k], ks', by simp, hl', by simp [hb], by simp [Nat.add_assoc]⟩
        | exact wpAny_bind (wpAny_pure (wpAny_pure ⟨done ++ [k], ks', by simp, hl', by simp [hb], by simp [Nat.add_assoc]⟩))
  · rintro b s' ⟨done, left, rfl, hl, hb, rfl⟩
    cases hl
    rw [List.append_nil] at h
    unfold nestDraws at h
    show wpAny _ _ (retInt (Builtin.Tuple.tupleHashOf b.toList)) _ _ _
    rw [hb]
    refine wpAny_ret_mkInt ?_
    show wpAny _ _ (if (decide (-(2 : Int) ^ 63 ≤ Builtin.Tuple.tupleHashOf (done.map (tupleKeyHash knd))) && decide (Builtin.Tuple.tupleHashOf (done.map (tupleKeyHash knd)) < 2 ^ 63)) = true then _ else _) Q E _
    unfold nestHash reduceHash at h
    by_cases hr : (decide (-(2 : Int) ^ 63 ≤ Builtin.Tuple.tupleHashOf (done.map (tupleKeyHash knd))) && decide (Builtin.Tuple.tupleHashOf (done.map (tupleKeyHash knd)) < 2 ^ 63)) = true
    · rw [if_pos hr]
      rw [if_pos hr] at h
      exact wpAny_pure (by simpa [Nat.add_assoc] using h)
    · rw [if_neg hr]
      rw [if_neg hr] at h
      exact wpAny_bind (wpAny_rule (wpAny_pure (by simpa [Nat.add_assoc] using h)))
theorem nest_eq_tree {x y : List (List K)} {a b : Addr} {P : PySem.Fin → Shared → Prop} (hu : A.units < cLine) (hx : IsNestKey knd s.heap x a) (hy : IsNestKey knd s.heap y b) (h : P (.done (.ret (.bool (decide (x = y))))) s) :
    wpAny (model prog w) A (Builtin.«tuple.__eq__» ⟨[.ref a, .ref b], []⟩) P E s := by
  have hTb := hy.typeIs
  obtain ⟨oa, xs, na, hoa, _, hda, hia⟩ := hx
  obtain ⟨ob, ys, nb, hob, _, hdb, hib⟩ := hy
  show wpAny _ _ (isInstance (.ref b) (.type "tuple") >>= _) _ _ s
  refine wpAny_bind (wpAny_isInstance hTb isSubtype_tuple_tuple ?_)
  simp only [Bool.not_true, Bool.false_eq_true, if_false]
  refine wpAny_bind (wpAny_tupleItemsOf hoa hda ?_)
  refine wpAny_bind (wpAny_tupleItemsOf hob hdb ?_)
  refine wpAny_bind ?_
  refine wpAny_forIn_list _
    (fun rest r s' => r.1 = none ∧ s' = s ∧ ∃ x' y' xs' ys', rest = List.zip xs' ys' ∧ Nested knd s.heap x' xs' ∧ Nested knd s.heap y' ys' ∧ decide (x' = y') = decide (x = y) ∧ (xs'.length == ys'.length) = (xs.size == ys.size))
    _ ?_ ?_ _ _ ⟨rfl, rfl, x, y, xs.toList, ys.toList, rfl, hia, hib, rfl, by simp⟩
  · rintro ⟨u, v⟩ rest r s' ⟨hr, rfl, x', y', xs', ys', hz, hx', hy', hdec, hlen⟩
    cases hx' with
    | nil => simp at hz
    | @cons k1 u' x'' xs'' h1 hx'' =>
      cases hy' with
      | nil => simp at hz
      | @cons k2 v' y'' ys'' h2 hy'' =>
        simp only [List.zip_cons_cons, List.cons.injEq, Prod.mk.injEq] at hz
        obtain ⟨⟨rfl, rfl⟩, rfl⟩ := hz
        refine wpAny_bind (wpAny_eqBool_tuple (knd := knd) hu h1 h2 ?_)
        by_cases hk : k1 = k2
        · subst hk
          rw [decide_eq_true rfl]
          simp only [Bool.not_true, Bool.false_eq_true, if_false]
          refine wpAny_pure ⟨rfl, rfl, x'', y'', xs'', ys'', rfl, hx'', hy'', ?_, by simpa using hlen⟩
          rw [← hdec]
          by_cases hxy : x'' = y''
          · simp [hxy]
          · simp [hxy]
        · rw [decide_eq_false hk]
          simp only [Bool.not_false, if_true]
          have hf : decide (x = y) = false := by rw [← hdec]; simp [hk]
          rw [hf] at h
          exact wpAny_bind (wpAny_pure (wpAny_pure (wpAny_pure h)))
  · rintro ⟨r1, r2⟩ s' ⟨hr, rfl, x', y', xs', ys', hz, hx', hy', hdec, hlen⟩
    simp only at hr
    subst hr
    refine wpAny_pure ?_
    have hfin : (xs.size == ys.size) = decide (x = y) := by
      rw [← hdec, ← hlen]
      cases hx' with
      | nil =>
        cases hy' with
        | nil => simp
        | cons _ _ => simp
      | cons _ _ =>
        cases hy' with
        | nil => simp
        | cons _ _ => simp at hz
    show P (.done (.ret (.bool (xs.size == ys.size)))) s'
    rw [hfin]; exact h
theorem wpAny_eqBool_nest {x y : List (List K)} {a b : Addr} {Q : Bool → Shared → Prop} (hu : A.units + 1 < cLine) (hx : IsNestKey knd s.heap x a) (hy : IsNestKey knd s.heap y b) (h : Q (decide (x = y)) s) :
    wpAny (model prog w) A (eqBool (.ref a) (.ref b)) Q E s := by
  unfold eqBool
  try with_reducible refine wpAny_holding ?_
  show wpAny _ _ (if (Value.ref a == Value.ref b) = true then _ else _) Q E s
  by_cases hab : (Value.ref a == Value.ref b) = true
  · rw [if_pos hab]
    have e : a = b := by have := eq_of_beq hab; injection this
    subst e
    obtain rfl := hx.inj hy
    exact wpAny_bind (wpAny_rule (wpAny_pure (by simpa using h)))
  · rw [if_neg hab]
    exact wpAny_bind (wpAny_richCompare_same_room (op := .Eq) hx.typeIs hy.typeIs F.slot_tuple_eq
      (wpAny_call_entry F.slot_tuple_eq hx.typeIs F.entry_tuple_eq (nest_eq_tree (by first | exact hu | (show A.units + 1 < cLine; exact hu)) hx hy ⟨_, rfl, (fun e => nomatch e), wpAny_truthy_bool h⟩) (F.args_tuple_eq_2 _ _)) (by omega))
theorem wpAny_eqIsQuiet_tupleN {N : Nat} {ks : List K} {a : Addr} {Q : Bool → Shared → Prop} (hk : IsTupleKey knd s.heap ks a) (h : Q true s) : wpAny (model prog w) A (eqIsQuiet (N + 1) (.ref a)) Q E s := by
  have hT := hk.typeIs
  obtain ⟨o, items, n, ho, _, hd, hi⟩ := hk
  unfold eqIsQuiet
  refine wpAny_bind (wpAny_specialOf hT F.slot_tuple_eq.lookup ?_)
  show wpAny _ _ (isInstance (.ref a) (.type "tuple") >>= _) _ _ s
  refine wpAny_bind (wpAny_isInstance hT isSubtype_tuple_tuple ?_)
  simp only [Bool.not_true, Bool.false_eq_true, if_false]
  refine wpAny_bind (wpAny_seqItems ho hd ?_)
  refine wpAny_bind ?_
  show wpAny _ _ (forIn items _ _) _ _ s
  rw [← Array.forIn_toList]
  refine wpAny_forIn_list _ (fun rest r s' => r.1 = none ∧ s' = s ∧ ∀ v ∈ rest, carriedByValue v = true) _ ?_ ?_ _ _ ⟨rfl, rfl, hi.byValue⟩
  · rintro v rest r s' ⟨hr, rfl, hall⟩
    rw [eqIsQuiet_byValue _ (hall v List.mem_cons_self)]
    refine wpAny_bind (wpAny_pure ?_)
    simp only [Bool.not_true, Bool.false_eq_true, if_false]
    exact wpAny_pure ⟨rfl, rfl, fun u hu' => hall u (List.mem_cons_of_mem _ hu')⟩
  · rintro ⟨r1, r2⟩ s' ⟨hr, rfl, _⟩
    simp only at hr
    subst hr
    exact wpAny_pure h
theorem wpAny_eqIsQuiet_nest {ks : List (List K)} {a : Addr} {Q : Bool → Shared → Prop} (hk : IsNestKey knd s.heap ks a) (h : Q true s) : wpAny (model prog w) A (eqIsQuiet 8 (.ref a)) Q E s := by
  have hT := hk.typeIs
  obtain ⟨o, items, n, ho, _, hd, hi⟩ := hk
  unfold eqIsQuiet
  refine wpAny_bind (wpAny_specialOf hT F.slot_tuple_eq.lookup ?_)
  show wpAny _ _ (isInstance (.ref a) (.type "tuple") >>= _) _ _ s
  refine wpAny_bind (wpAny_isInstance hT isSubtype_tuple_tuple ?_)
  simp only [Bool.not_true, Bool.false_eq_true, if_false]
  refine wpAny_bind (wpAny_seqItems ho hd ?_)
  refine wpAny_bind ?_
  show wpAny _ _ (forIn items _ _) _ _ s
  rw [← Array.forIn_toList]
  refine wpAny_forIn_list _ (fun rest r s' => r.1 = none ∧ s' = s ∧ ∃ ls, Nested knd s.heap ls rest) _ ?_ ?_ _ _ ⟨rfl, rfl, ks, hi⟩
  · rintro v rest r s' ⟨hr, rfl, ls, hl⟩
    cases hl with
    | cons h1 hl' =>
      refine wpAny_bind (wpAny_eqIsQuiet_tupleN (knd := knd) h1 ?_)
      simp only [Bool.not_true, Bool.false_eq_true, if_false]
      exact wpAny_pure ⟨rfl, rfl, _, hl'⟩
  · rintro ⟨r1, r2⟩ s' ⟨hr, rfl, _⟩
    simp only at hr
    subst hr
    exact wpAny_pure h
end
def nestKind {prog : Program} {w : World} {K : Type} [DecidableEq K] (knd : KeyKind prog w K) : HeapKind prog w (List (List K)) where
  is := IsNestKey knd
  hash := nestHash knd
  draws := nestDraws
  room := fun A => A.units + 1 < cLine
  inj := fun hx hy => hx.inj hy
  keeps := fun x ho hd hs => x.keeps ho hd hs
  pyHash := fun hu hk h => wpAny_pyHash_nest hu hk h
  eqBool := fun hu hx hy h => wpAny_eqBool_nest hu hx hy h
  quiet := fun hk h => wpAny_eqIsQuiet_nest hk h
end MM


namespace MM
open PySem PySem.Spec PyProof.Rows L2
variable [Tb]

/-! ### dict(l) of a list of pairs whose first is a tuple of ints and texts -/
/-- three lists in step: the pair's address, the key's address, the key, the value -/
structure Pr where
  t : Addr
  b : Addr
  k : List L2.Key
  v : V
def PrOk (H : Hp) (p : Pr) : Prop := H p.t = some (.tup [.ref p.b, p.v]) ∧ H p.b = some (.tup (p.k.map kV))
def rDictT (K : PySem.W.Frag) : List V → Hp → VK → Prop := fun xs H Q => ∃ (a : Addr) (ps : List Pr), xs = [.ref a] ∧ H a = some (.lst (ps.map fun p => V.ref p.t)) ∧ (∀ p ∈ ps, PrOk H p) ∧
  ∀ d, H d = none → Q (.ref d) (upd H d (.dT (ps.foldl (fun m p => putK m p.k p.v) [])))
theorem kt_fold {H : Hp} : ∀ (ps : List (Pr × Value)) {kvs : List (List L2.Key × V)} {xs : List (List L2.Key × Addr × Value)}, KT H kvs xs → (∀ p ∈ ps, PrOk H p.1 ∧ RelV p.1.v p.2) →
    KT H (ps.foldl (fun m p => putK m p.1.k p.1.v) kvs) (storedAllH xs (ps.map fun p => (p.1.k, p.1.b, p.2)))
  | [], _, _, r, _ => r
  | p :: ps, _, _, r, h => by
    obtain ⟨h1, h2⟩ := h p (List.mem_cons_self ..)
    exact kt_fold ps (r.put p.1.k h1.2 h2) fun q m => h q (List.mem_cons_of_mem _ m)
theorem call_dictT {X : Cx} (hc : X.calm = true) (hu : X.A.units + 2 < cLine) : CallR X (.type "dict") (rDictT X.K) := by
  intro pins s σ H xs us Q I r q
  obtain ⟨a, ps, ex, ha, hp, q⟩ := q
  subst ex
  obtain ⟨u, eu, rx⟩ := vals1 r
  subst eu
  cases rx
  obtain ⟨its, n, rv, ho, hz⟩ := I.lst ha
  -- the values
  have tup : ∀ p ∈ ps, ∃ u : Value, RelV p.v u ∧ ∃ o m, s.heap.get? p.t = some o ∧ o.cls = .type "tuple" ∧ o.data = .seq #[.ref p.b, u] m := fun p hm => by
    obtain ⟨_, its2, r2, o, h1, h2, m, h3⟩ := (show ObjOk X.prog X.w H s.heap p.t (.tup [.ref p.b, p.v]) from I.hok p.t _ (hp p hm).1)
    cases r2 with
    | cons r3 r4 =>
      cases r4 with
      | cons r5 r6 =>
        cases r6
        cases r3
        exact ⟨_, r5, o, m, h1, h2, h3⟩
  obtain ⟨zs, ez, hzs⟩ : ∃ zs : List (Pr × Value), zs.map (·.1) = ps ∧ ∀ z ∈ zs, PrOk H z.1 ∧ RelV z.1.v z.2 ∧ s.heap.IsTuple z.1.t #[.ref z.1.b, z.2] := by
    clear ha q rv ho hz r
    induction ps with
    | nil => exact ⟨[], rfl, fun _ m => nomatch m⟩
    | cons p r ih =>
      obtain ⟨zs, e1, e2⟩ := ih (fun q m => hp q (List.mem_cons_of_mem _ m)) (fun q m => tup q (List.mem_cons_of_mem _ m))
      obtain ⟨u, ru, o, m, h1, h2, h3⟩ := tup p (List.mem_cons_self ..)
      refine ⟨(p, u) :: zs, by rw [List.map_cons, e1], fun z mz => ?_⟩
      rcases List.mem_cons.mp mz with rfl | mz
      · exact ⟨hp p (List.mem_cons_self ..), ru, o, h1, h2, m, h3⟩
      · exact e2 z mz
  subst ez
  have ei : its = (zs.map (·.1)).map fun p => Value.ref p.t := by
    have := refs_at (ps := (zs.map (·.1)).map fun p => p.t) (us := its) (by rw [List.map_map]; exact rv)
    rw [this, List.map_map]
    rfl
  subst ei
  rw [List.length_map, List.length_map] at hz
  have hkey : ∀ z ∈ zs, (tupleKind (mixKind X.prog X.w)).is s.heap z.1.k z.1.b := fun z mz => key_of I.hok (hzs z mz).1.2
  refine PySem.call_dict_pairsH (knd := tupleKind (mixKind X.prog X.w)) (ps := zs.map fun z => (z.1.k, z.1.b, z.2))
    (PairArg.list a _ (fun j => (zs[j]?.map fun z => z.1.t).getD 0) (zs.map fun z => (Value.ref z.1.b, z.2))) (I.ok.hd hc) (by show X.A.units + 2 < cLine; exact hu)
    ⟨⟨_, n, ho, rfl, rfl, rfl⟩, by simp, fun j k v e => ?_⟩ ⟨by simp, fun i key v e => ?_⟩ (fun h' keep x mx => ?_) (by rw [List.length_map]; exact hz) fun h' tk hd' keep => ?_
  · rw [List.getElem?_map] at e
    cases hj : zs[j]? with
    | none => rw [hj] at e; cases e
    | some z =>
      rw [hj] at e
      cases e
      refine ⟨?_, .inl ?_⟩
      · simp [hj]
      · simp only [hj]
        exact (hzs z (List.mem_of_getElem? hj)).2.2
  · have e : (zs.map fun z => (Value.ref z.1.b, z.2))[i]? = some (key, v) := e
    rw [List.getElem?_map] at e
    cases hj : zs[i]? with
    | none => rw [hj] at e; cases e
    | some z =>
      rw [hj] at e
      cases e
      exact ⟨z.1.k, z.1.b, by rw [List.getElem?_map, hj]; rfl, rfl⟩
  · obtain ⟨z, mz, rfl⟩ := List.mem_map.mp mx
    obtain ⟨o, items, m, h1, h2, h3, h4⟩ := hkey z mz
    exact ⟨o, items, m, keep _ _ (Nat.ne_of_lt (Heap.lt_size h1)) (fun q => nomatch q) h1, h2, h3, h4⟩
  · have hm : (s.heap.objs.size == sysModules) = false := beq_eq_false_iff_ne.mpr (Nat.ne_of_gt I.big)
    have fr : H s.heap.objs.size = none := I.hok.fresh (Nat.le_refl _)
    have rel := kt_fold (H := H) zs (kvs := []) (xs := []) .nil fun p m => ⟨(hzs p m).1, (hzs p m).2.1⟩
    have hlen : (zs.foldl (fun m p => putK m p.1.k p.1.v) []).length ≤ sizeLine := by
      rw [Paired.length rel]
      have := storedAllH_length (zs.map fun p => (p.1.k, p.1.b, p.2)) []
      rw [List.length_map, List.length_nil] at this
      omega
    have q' := q s.heap.objs.size fr
    rw [List.foldl_map] at q'
    obtain ⟨qo, es, ep, hq, h2, h3, h4, _, h5⟩ := hd'
    refine ⟨.ref s.heap.objs.size, _, I.laid (t' := tk) (o := .dT (zs.foldl (fun m p => putK m p.1.k p.1.v) [])) (fun b o e => keep b o (fun z => nomatch z) e) (Nat.le_refl _) ⟨hlen, hm, _, rel.keeps fun c ys ec => ?_, qo, es, ep, hq, h2, h3, h4, h5⟩, rfl, q'⟩
    rw [upd_ne (ne_of_none ec fr)]
    exact ec
/-! ### over plain data -/
def prOf : PyData → Option (List L2.Key × PyData)
  | .tuple [x, y] => (keyT x).bind fun k => some (k, y)
  | _ => none
def prsOf : List PyData → Option (List (List L2.Key × PyData))
  | [] => some []
  | d :: r => (prOf d).bind fun p => (prsOf r).bind fun ps => some (p :: ps)
def foldD (ps : List (List L2.Key × PyData)) : List (List L2.Key × PyData) := ps.foldl (fun m p => putD m p.1 p.2) []
theorem prs_da {F H : Hp} (e : Ex F H) : ∀ {ds : List PyData} {vs : List V} {ps : List (List L2.Key × PyData)}, DaAll F vs ds → prsOf ds = some ps →
    ∃ qs : List Pr, vs = qs.map (fun p => V.ref p.t) ∧ (∀ p ∈ qs, PrOk H p) ∧ Paired (fun (p : List L2.Key × PyData) (q : Pr) => p.1 = q.k ∧ Da F q.v p.2) ps qs
  | [], _, _, h, w => by
    cases h
    cases w
    exact ⟨[], rfl, (fun p m => absurd m (by simp)), Paired.nil⟩
  | d :: r, _, _, h, w => by
    obtain ⟨p, w1, w⟩ := Option.bind_eq_some_iff.mp w
    obtain ⟨ps, w2, w⟩ := Option.bind_eq_some_iff.mp w
    cases w
    cases h with
    | cons h t =>
      obtain ⟨qs, e1, e2, e3⟩ := prs_da e t w2
      unfold prOf at w1
      split at w1
      · rename_i x y
        obtain ⟨k, w3, w1⟩ := Option.bind_eq_some_iff.mp w1
        cases w1
        cases h with
        | tup hp ha =>
          cases ha with
          | cons a1 a2 =>
            cases a2 with
            | cons a3 a4 =>
              cases a4
              obtain ⟨b, rfl, hb⟩ := keyT_da a1 w3
              refine ⟨⟨_, b, k, _⟩ :: qs, by rw [e1]; rfl, fun q m => ?_, .cons ⟨rfl, a3⟩ e3⟩
              rcases List.mem_cons.mp m with rfl | m
              · exact ⟨e _ _ hp, e _ _ hb⟩
              · exact e2 q m
      · cases w1
theorem kd_fold {F : Hp} : ∀ {ps : List (List L2.Key × PyData)} {qs : List Pr}, Paired (fun (p : List L2.Key × PyData) (q : Pr) => p.1 = q.k ∧ Da F q.v p.2) ps qs → ∀ {kvs : List (List L2.Key × PyData)} {kws : List (List L2.Key × V)}, KD F kvs kws →
    KD F (ps.foldl (fun m p => putD m p.1 p.2) kvs) (qs.foldl (fun m p => putK m p.k p.v) kws)
  | _, _, .nil, _, _, h => h
  | _, _, .cons r t, _, _, h => by
    refine kd_fold t ?_
    dsimp only
    rw [r.1]
    exact h.put r.2
/-- x = dict(l) -/
def sDictT (i : Nat) (m : MR) : MS := fun Γ => (m Γ).bind fun r => (r.1 r.2).bind fun d => match d with
  | .list ds => (prsOf ds).bind fun ps => if i < r.2.length then some (.nx, r.2.set i (.dT (foldD ps))) else none
  | _ => none
theorem evs_dictT {K : PySem.W.Frag} {i : Nat} {te : TE} {m : MR} (h : EvR te m) : EvS (tAsg (tCB (rDictT K) (tCons te tNil)) (gName i)) (sDictT i m) := by
  intro a c σ Γ R F H s fl Γ' e D k
  obtain ⟨⟨w, Γ1⟩, e1, e⟩ := Option.bind_eq_some_iff.mp e
  obtain ⟨d, e2, e⟩ := Option.bind_eq_some_iff.mp e
  split at e
  · rename_i d' ds
    obtain ⟨ps, e3, e⟩ := Option.bind_eq_some_iff.mp e
    dsimp only at e
    split at e
    · rename_i hi
      cases e
      refine h a c σ Γ R F H s w Γ1 e1 _ fun v F1 H1 x1 s1 l1 => ?_
      obtain ⟨p, vs, rfl, hp, ha⟩ := l1 _ _ _ _ (Ex.refl _) s1 e2
      obtain ⟨qs, rfl, q2, q3⟩ := prs_da s1.ex ha e3
      refine ⟨p, qs, rfl, hp, q2, fun b hb => ?_⟩
      exact k _ F1 _ x1 ((s1.mine hb).set_dT hi (kd_fold q3 .nil))
    · cases e
  · cases e
/-- list(dict(l)) -/
def lDictKeys (m : MR) : ML := fun Γ => (m Γ).bind fun r => (r.1 r.2).bind fun d => match d with
  | .list ds => (prsOf ds).bind fun ps => some ((foldD ps).map fun p => .tuple (p.1.map unkey), r.2)
  | _ => none
theorem evl_dictKeys {K : PySem.W.Frag} {te : TE} {m : MR} (h : EvR te m) :
    EvL (tCB (fun xs H Q => ∃ d kvs, xs = [V.ref d] ∧ Rd H d (.dT kvs) ∧ ∀ p bs, H p = none → IsKeys H kvs bs → Q (.ref p) (upd H p (.lst (bs.map V.ref)))) (tCons (tCB (rDictT K) (tCons te tNil)) tNil)) (lDictKeys m) := by
  intro a c σ Γ R F H s es Γ' e Q q
  obtain ⟨⟨w, Γ1⟩, e1, e⟩ := Option.bind_eq_some_iff.mp e
  obtain ⟨d, e2, e⟩ := Option.bind_eq_some_iff.mp e
  split at e
  · rename_i d' ds
    obtain ⟨ps, e3, e⟩ := Option.bind_eq_some_iff.mp e
    cases e
    refine h a c σ Γ R F H s w _ e1 _ fun v F1 H1 x1 s1 l1 => ?_
    obtain ⟨p, vs, rfl, hp, ha⟩ := l1 _ _ _ _ (Ex.refl _) s1 e2
    obtain ⟨qs, rfl, q2, q3⟩ := prs_da s1.ex ha e3
    refine ⟨p, qs, rfl, hp, q2, fun b hb => ?_⟩
    have kd := kd_fold q3 (kvs := []) (kws := []) .nil
    refine ⟨b, _, rfl, .inl upd_same, fun l bs hl hk => ?_⟩
    obtain ⟨F2, x2, s2, d2⟩ := (s1.mine (o := .dT (qs.foldl (fun m p => putK m p.k p.v) [])) hb).knows hk
    have d2' : DaAll F2 (bs.map V.ref) ((foldD ps).map fun p => PyData.tuple (p.1.map unkey)) := by
      have := kd.keys (f := fun k => PyData.tuple (k.map unkey))
      rw [this] at d2
      exact d2
    obtain ⟨O, rr, ww⟩ := (s2.mine (o := .lst (bs.map V.ref)) hl).st
    refine q _ _ F2 _ (x1.trans x2) ⟨O, rr, ?_⟩ d2'
    have ww2 : Wd F2 ((b, .dT (qs.foldl (fun m p => putK m p.k p.v) [])) :: (O ++ (l, .lst (bs.map V.ref)) :: R)) _ := ww.perm (by
      refine List.Perm.trans (List.Perm.append_left O (List.Perm.swap _ _ _)) ?_
      exact List.perm_middle)
    exact ww2.tail
  · cases e
section
variable {X : Cx} {e : Expr} {m : MR} {pos pos' p1 p2 p3 : Pos} {x : Str}
theorem s_dictT (i : Nat) (hN : X.N.Nodup) (hc : X.calm = true) (hu : X.A.units + 2 < cLine) (hg : Gl X "dict") (hm : X.mg "dict" = none) (h : PR X e m) (hi : X.N[i]? = some x := by rfl) (hx : Loc X.env.scope x := by first | exact Or.inl rfl | exact Or.inr rfl)
    (hs : swapsWith (.Call (.Name "dict" p1) [e] [] p2) (some (.Name x pos')) pos.line X.env = pure false := by rfl) (hf : X.fn x = true ∨ X.env.scope.names.lookup x = some .local := by first | exact .inl rfl | exact .inr rfl)
    (he : starEach [e] X.env = [(false, eval e X.env)] := by rfl) : PS1 X (.Assign [.Name x pos'] (.Call (.Name "dict" p1) [e] [] p2) pos) (sDictT i m) :=
  let ⟨_, a, b⟩ := h; ⟨_, ps_set hN hi hx (pe_callTy (call_dictT hc hu) hg hm (by decide +kernel) (pa_cons a pa_nil he) (by decide) (by decide) he rfl) hs hf, evs_dictT b⟩
theorem l_dictKeys (hc : X.calm = true) (hu : X.A.units + 2 < cLine) (hg : Gl X "list") (hm : X.mg "list" = none) (hg2 : Gl X "dict") (hm2 : X.mg "dict" = none) (h : PR X e m) (he : starEach [e] X.env = [(false, eval e X.env)] := by rfl)
    (he2 : starEach [.Call (.Name "dict" p1) [e] [] p2] X.env = [(false, eval (.Call (.Name "dict" p1) [e] [] p2) X.env)] := by rfl) :
    PL X (.Call (.Name "list" p3) [.Call (.Name "dict" p1) [e] [] p2] [] pos) (lDictKeys m) :=
  let ⟨_, a, b⟩ := h; ⟨_, pe_callTy (call_list_dT hc) hg hm (by decide +kernel) (pa_cons (pe_callTy (call_dictT hc hu) hg2 hm2 (by decide +kernel) (pa_cons a pa_nil he) (by decide) (by decide) he rfl) pa_nil he2) (by decide) (by decide) he2 rfl, evl_dictKeys b⟩
end
end MM


namespace MM
open PySem PySem.Spec PyProof.Rows L2
variable [Tb]

theorem ent_eq (P : Program) (w : World) (x : List (List Int) × Addr × Value) : entryOfKey (nestKind (intKind P w)) x = entN x := rfl
theorem ents_eq (P : Program) (w : World) (xs : List (List (List Int) × Addr × Value)) : xs.map (entryOfKey (nestKind (intKind P w))) = xs.map entN := rfl
/-- a key's object in the heap -/
def KeyH (H : Hp) (b : Addr) (ks : List (List Int)) : Prop := ∃ bs : List Addr, H b = some (.tup (bs.map V.ref)) ∧ Paired (fun c k => H c = some (.tup (k.map V.int))) bs ks
theorem da_tups {F : Hp} : ∀ {vs : List V} {ks : List (List Int)}, DaAll F vs (ks.map fun k => PyData.tuple (k.map PyData.int)) → ∃ bs : List Addr, vs = bs.map V.ref ∧ Paired (fun c k => F c = some (.tup (k.map V.int))) bs ks
  | _, [], h => by
    cases h
    exact ⟨[], rfl, .nil⟩
  | _, k :: ks, h => by
    cases h with
    | cons h t =>
      obtain ⟨bs, rfl, r⟩ := da_tups t
      cases h with
      | tup hp ha =>
        have e := da_ints ha
        subst e
        exact ⟨_ :: bs, rfl, .cons hp r⟩
theorem keyH_of {F H : Hp} (e : Ex F H) {b : Addr} {ks : List (List Int)} (h : Da F (.ref b) (nestD ks)) : KeyH H b ks := by
  cases h with
  | tup hp ha =>
    obtain ⟨bs, rfl, r⟩ := da_tups ha
    exact ⟨bs, e _ _ hp, Paired.mapP r fun _ _ z => e _ _ z⟩
theorem items_vals {P : Program} {w : World} : ∀ {k : List Int} {us : List Value}, Vals (k.map V.int) us → ItemsAre (intKind P w) k us
  | [], _, r => by
    cases r
    exact .nil
  | i :: k, _, r => by
    cases r with
    | cons h t =>
      obtain ⟨tk, rfl⟩ := h
      exact .cons (by simp [PySem.intKind, Value.isInt]) (items_vals t)
section
variable {X : Cx} {pins : List (Addr × Obj)} {σ : L2.St} {H : Hp} {s : Shared}
theorem nest_key (I : Inv X pins σ H s) {b : Addr} {ks : List (List Int)} (h : KeyH H b ks) : (nestKind (intKind X.prog X.w)).is s.heap ks b := by
  obtain ⟨bs, hb, r⟩ := h
  obtain ⟨z0, its, rv, o, h1, h2, n, h3⟩ := (show ObjOk X.prog X.w H s.heap b (.tup (bs.map V.ref)) from I.hok b _ hb)
  have e := refs_at rv
  subst e
  clear z0
  refine ⟨o, _, n, h1, h2, h3, ?_⟩
  show Nested (intKind X.prog X.w) s.heap ks (bs.map Value.ref)
  clear h1 h2 h3 rv hb
  induction r with
  | nil => exact .nil
  | @cons c k _ _ h t ih =>
    obtain ⟨_, its, rv, o, h1, h2, n, h3⟩ := (show ObjOk X.prog X.w H s.heap c (.tup (k.map V.int)) from I.hok c _ h)
    refine .cons ⟨o, its.toArray, n, h1, h2, h3, ?_⟩ ih
    exact items_vals rv
end
def putN (kb : List (List (List Int) × Addr)) (k : List (List Int)) (b : Addr) : List (List (List Int) × Addr) := if (kb.any fun x => decide (x.1 = k)) = true then kb else kb ++ [(k, b)]
theorem putN_stored (xs : List (List (List Int) × Addr × Value)) (k : List (List Int)) (b : Addr) (v : Value) : (storedH xs k b v).map (fun x => (x.1, x.2.1)) = putN (xs.map fun x => (x.1, x.2.1)) k b := by
  unfold putN storedH
  have e : ((xs.map fun x => (x.1, x.2.1)).any fun x => decide (x.1 = k)) = (atKey xs k).isSome := by
    unfold atKey
    induction xs with
    | nil => rfl
    | cons x r ih =>
      rw [List.map_cons, List.any_cons, List.find?_cons]
      by_cases h : x.1 = k
      · simp [h]
      · simp only [h, decide_false, Bool.false_or]
        exact ih
  rw [e]
  split
  · rw [List.map_map]
    apply List.map_congr_left
    intro x _
    show ((putAt k v x).1, (putAt k v x).2.1) = (x.1, x.2.1)
    unfold putAt
    split <;> rfl
  · rw [List.map_append]
    rfl
theorem putN_len (kb : List (List (List Int) × Addr)) (k : List (List Int)) (b : Addr) : (putN kb k b).length ≤ kb.length + 1 := by
  unfold putN
  split
  · omega
  · simp
theorem dn_ok {P : Program} {w : World} {H : Hp} {h : Heap} {p : Addr} {kb : List (List (List Int) × Addr)} (d : DNat p kb h) : ObjOk P w H h p (.ext (DNat p kb)) := by
  refine ⟨d, ?_, fun h1 h2 q k => ?_⟩
  · obtain ⟨_, _, _, _, o, _, _, e, _⟩ := d
    exact ⟨o, e⟩
  · obtain ⟨a1, a2, xs, a3, o, es, ep, a4, a5⟩ := q
    exact ⟨a1, a2, xs, a3, o, es, ep, k o a4, a5⟩
theorem vals_refsN : ∀ as : List Addr, Vals (as.map V.ref) (as.map Value.ref)
  | [] => .nil
  | _ :: r => .cons rfl (vals_refsN r)
/-! {} -/
def tDNewN : TE := fun _ H Q => ∀ p, H p = none → Q (.ref p) (upd H p (.ext (DNat p [])))
theorem pe_dnewN {X : Cx} {pos : Pos} : PE X (.Dict [] [] pos) tDNewN := ⟨fun pins s σ H Q I h =>
  wpAny_Dict_empty ⟨.ref s.heap.objs.size, _, I.laid (a := s.heap.objs.size) (o := .ext (DNat s.heap.objs.size [])) (t' := s.toks) (fun _ _ q => Heap.get?_push_of_some _ q) (Nat.le_refl _)
    (dn_ok ⟨beq_eq_false_iff_ne.mpr (Nat.ne_of_gt I.big), Nat.zero_le _, [], rfl, _, #[], 0, Heap.get?_push_size _ rfl, ⟨rfl, rfl, rfl⟩, rfl, rfl, List.nodup_nil⟩), rfl, h _ (I.hok.fresh (Nat.le_refl _))⟩⟩
/-! d[k] = v -/
def sNPut (td ty tv : TE) : TS := fun D σ H => tv σ H fun v H1 => td σ H1 fun x H2 => ty σ H2 fun y H3 => ∃ a kb k b, x = .ref a ∧ H3 a = some (.ext (DNat a kb)) ∧ y = .ref b ∧ KeyH H3 b k ∧ (∀ x ∈ kb, KeyH H3 x.2 x.1) ∧ kb.length < sizeLine ∧ D.nx σ (upd H3 a (.ext (DNat a (putN kb k b))))
theorem ps_nput {X : Cx} {o i value : Expr} {td ty tv : TE} {pos pos' : Pos} (hu : X.A.units + 2 < cLine) (ho : PE X o td) (hi : PE X i ty) (hv : PE X value tv) (hs : swapsWith value (some (.Subscript o i pos')) pos.line X.env = pure false) :
    PS X (.Assign [.Subscript o i pos'] value pos) (sNPut td ty tv) := by
  refine ⟨fun pins s σ H D I h => ?_⟩
  refine wpAny_Assign_Subscript (thn (hv.run pins s σ H _ I h) fun r s1 ⟨v, H1, I1, rv, q1⟩ => thn (ho.run pins s1 σ H1 _ I1 q1) fun u s2 ⟨x, H2, I2, rx, q2⟩ => thn (hi.run pins s2 σ H2 _ I2 q2) fun iv s3 ⟨y, H3, I3, ry, a, kb, k, b, ex, ha, ey, hk, hkb, hl, q3⟩ => ?_) hs
  subst ex ey
  cases rx
  cases ry
  obtain ⟨⟨hsm, hz, xs, ek, ob, es, ep, h1, h2, h3, h4, h5⟩, _, _⟩ := (show ObjOk X.prog X.w H3 s3.heap a (.ext (DNat a kb)) from I3.hok a _ ha)
  have xl : xs.length = kb.length := by rw [← ek, List.length_map]
  have keys : ∀ x ∈ xs, (nestKind (intKind X.prog X.w)).is s3.heap x.1 x.2.1 := fun x m =>
    nest_key I3 (hkb (x.1, x.2.1) (by rw [← ek]; exact List.mem_map.mpr ⟨x, m, rfl⟩))
  refine wpAny_setItem_heap (knd := nestKind (intKind X.prog X.w)) (hsz := by rw [xl]; exact hz) (by show X.A.units + 1 + 1 < cLine; omega) (nest_key I3 hk) ⟨ob, es, ep, h1, h2, h3, h4, keys, h5⟩ fun h' dd' hs' => ?_
  obtain ⟨ob', es', ep', g1, g2, g3, g4, _, g5⟩ := dd'
  have en : (storedH xs k b r).map (fun x => (x.1, x.2.1)) = putN kb k b := by rw [putN_stored, ek]
  have ln : (putN kb k b).length ≤ sizeLine := by have := putN_len kb k b; omega
  refine ⟨σ, _, I3.write (x := a) (e := a) (o := .ext (DNat a (putN kb k b))) (t' := _) (by rw [ha]; exact True.intro) (.inl rfl) (fun c q hc z => (hs'.2 c hc).trans z) ⟨ob', g1⟩ (dn_ok ⟨hsm, ln, _, en, ob', es', ep', g1, g2, g3, g4, g5⟩), q3⟩
/-! list(d) -/
def rListN : List V → Hp → VK → Prop := fun xs H Q => ∃ d kb, xs = [V.ref d] ∧ H d = some (.ext (DNat d kb)) ∧ ∀ p, H p = none → Q (.ref p) (upd H p (.lst (kb.map fun x => V.ref x.2)))
theorem call_listN {X : Cx} (hc : X.calm = true) : CallR X (.type "list") rListN := by
  intro pins s σ H xs us Q I r h
  obtain ⟨d, kb, rfl, hd, q⟩ := h
  obtain ⟨u, rfl, rx⟩ := vals1 r
  cases rx
  obtain ⟨⟨hsm, hz, ks, ek, o, es, ep, ho, hx, hdt, he, hn⟩, _, _⟩ := (show ObjOk X.prog X.w H s.heap d (.ext (DNat d kb)) from I.hok d _ hd)
  have l1 : es.size = ks.length := size_of_entries (knd := nestKind (intKind X.prog X.w)) he
  have l2 : kb.length = ks.length := by rw [← ek, List.length_map]
  refine PySem.W.kdl_call (kdl_raw hsm hx hdt) (I.ok.hd hc) ho (by omega) fun h' tk acc' c' kp e it => ?_
  have ea : acc'.toList = ks.map fun x => Value.ref x.2.1 := by
    have hl : acc'.toList.length = ks.length := by rw [Array.length_toList, it.1]; exact l1
    apply List.ext_getElem?
    intro j
    rw [List.getElem?_map]
    cases hj : acc'.toList[j]? with
    | none =>
      have h1 := List.getElem?_eq_none_iff.mp hj
      rw [List.getElem?_eq_none (by omega)]
      all_goals rfl
    | some v =>
      obtain ⟨en, hen, hv⟩ := it.2 j v (by rw [← Array.getElem?_toList]; exact hj)
      have qe := entry_at (knd := nestKind (intKind X.prog X.w)) he j
      rw [hen] at qe
      cases hb : ks[j]? with
      | none =>
        rw [hb] at qe
        exact nomatch (show some en = none from qe)
      | some b =>
        rw [hb] at qe
        have e2 : en = entN b := Option.some.inj qe
        rw [hv, e2]
        all_goals rfl
  have eb : acc'.toList = (kb.map fun x => x.2).map Value.ref := by rw [ea, ← ek, List.map_map, List.map_map]; all_goals rfl
  have rv : Vals ((kb.map fun x => x.2).map V.ref) acc'.toList := by rw [eb]; exact vals_refsN _
  have hz' : ((kb.map fun x => x.2).map V.ref).length ≤ sizeLine := by rw [List.length_map, List.length_map]; exact hz
  have q' := q _ (I.hok.fresh (Nat.le_refl _))
  have em : (kb.map fun x => V.ref x.2) = (kb.map fun x => x.2).map V.ref := by rw [List.map_map]; rfl
  rw [em] at q'
  refine ⟨.ref s.heap.objs.size, _, I.laid (t' := tk) (o := .lst ((kb.map fun x => x.2).map V.ref)) kp (Nat.le_refl _) ?_, rfl, q'⟩
  exact ⟨hz', acc'.toList, c', rv, by rw [Array.toArray_toList]; exact e⟩
/-! a walk over the keys, the dict locked -/
def Itkn (d : Addr) (o : Obj) (kb : List (List (List Int) × Addr)) : It :=
  ⟨fun i H => H d = some (.frz o (.ext (DNat d kb))) ∧ i < kb.length, fun i H x H' => H' = H ∧ ∃ k b, kb[i]? = some (k, b) ∧ x = .ref b, fun i H => H d = some (.frz o (.ext (DNat d kb))) ∧ kb.length ≤ i⟩
theorem frzN {X : Cx} {pins : List (Addr × Obj)} {σ : L2.St} {H : Hp} {s : Shared} {d : Addr} {o : Obj} {kb : List (List (List Int) × Addr)} (I : Inv X pins σ H s) (h : H d = some (.frz o (.ext (DNat d kb)))) :
    (d == sysModules) = false ∧ s.heap.get? d = some o ∧ o.ExactDict ∧ ∃ (es : Array DictEntry) (ep : Nat), o.data = .dict es ep ∧ es.size = kb.length ∧
      ∀ (i : Nat) k b, kb[i]? = some (k, b) → ∃ (en : DictEntry), es[i]? = some en ∧ en.key = .ref b := by
  obtain ⟨hd, ⟨hsm, hz, ks, ek, o', es, ep, ho, hx, hdt, he, hn⟩, _, _⟩ := I.hok d _ h
  rw [hd] at ho
  cases ho
  have l1 : es.size = ks.length := size_of_entries (knd := nestKind (intKind X.prog X.w)) he
  have l2 : kb.length = ks.length := by rw [← ek, List.length_map]
  refine ⟨hsm, hd, hx, es, ep, hdt, by omega, fun i k b e => ?_⟩
  rw [← ek, List.getElem?_map] at e
  cases hb : ks[i]? with
  | none => rw [hb] at e; cases e
  | some x =>
    rw [hb] at e
    cases e
    have q := entry_at (knd := nestKind (intKind X.prog X.w)) he i
    rw [hb] at q
    exact ⟨_, q, rfl⟩
section
variable {P : Program} {w : World} {K : PySem.W.Frag} {tg : Expr} {d : Addr} {o : Obj} {es : Array DictEntry} {ep : Nat}
theorem turn_keysN {kb : List (List (List Int) × Addr)} (it : Addr) (hod : o.data = .dict es ep) : Turn P w K tg (Itkn d o kb) [it] it (fun i h => h.IsKeyIter it d i kb.length ep) where
  mem := by simp
  obj := fun i h st b hb => by
    have e : b = it := by simpa using hb
    subst e
    obtain ⟨oi, e, c, dd⟩ := st
    exact ⟨oi, e, fun v z => by rw [dd] at z; cases z⟩
  keep := fun i h h' st k => st.at fun oi e => k it (by simp) oi e
  item := by
    intro X hP hw hK hc i pins s σ H E I hf st hg
    subst hP hw hK
    obtain ⟨hd, hi⟩ := hg
    obtain ⟨f0, f1, f2, f3, f4, f5⟩ := hf it (by simp)
    obtain ⟨hs, hgd, hx, es', ep', hdt, hsz, ent⟩ := frzN I hd
    obtain ⟨rfl, rfl⟩ := dict_ep hod hdt
    obtain ⟨⟨k, b⟩, hkv⟩ : ∃ p, kb[i]? = some p := ⟨kb[i], List.getElem?_eq_getElem hi⟩
    obtain ⟨en, hen, hkey⟩ := ent i k b hkv
    refine next_key_item st hgd hdt hsz hen fun h' st' sb => ?_
    have I1 : Inv X pins σ H { s with heap := h' } := I.turned (t' := s.toks) (fun b ob hb e => (sb.2 b hb).trans e) f0 f1 f3 f4 f5
    obtain ⟨oi, e, c, dd⟩ := id st'
    exact ⟨en.key, rfl, go_of (s := { s with heap := h' }) e c dd (by decide) ⟨.ref b, H, I1, hkey, ⟨rfl, k, b, hkv, rfl⟩, st', fun b hb => (hf b hb).1⟩⟩
  done := by
    intro X hP hw hK hc i pins s σ H E I hf st hg
    subst hP hw hK
    obtain ⟨hd, hi⟩ := hg
    obtain ⟨f0, f1, f2, f3, f4, f5⟩ := hf it (by simp)
    obtain ⟨hs, hgd, hx, es', ep', hdt, hsz, ent⟩ := frzN I hd
    obtain ⟨rfl, rfl⟩ := dict_ep hod hdt
    exact next_key_end (I.ok.hd hc) st hgd hdt hsz hi fun h' eb => ⟨rfl, I.turned (t' := s.toks) (fun b ob hb e => eb b ob hb e) f0 f1 f3 f4 f5⟩
  self := fun A i s Q E st h => by
    refine wpAny_pyIter_slot st.typeIs F.slot_dict_keyiterator_iter (wpAny_call_entry F.slot_dict_keyiterator_iter st.typeIs F.entry_dict_keyiterator_iter ?_ (F.args_dict_keyiterator_iter_1 _))
    show wpAny _ _ (ret (.ref it)) _ _ s
    exact wpAny_pure ⟨_, rfl, "dict_keyiterator", _, st.typeIs, F.slot_dict_keyiterator_next.lookup, h⟩
end
def iKeysN (td : TE) : TI := fun σ H R => td σ H fun x H1 => ∃ d o kb, x = .ref d ∧ H1 d = some (.frz o (.ext (DNat d kb))) ∧ R (Itkn d o kb) H1
theorem pi_keysN {X : Cx} {tg e : Expr} {td : TE} (he : PE X e td) : PI X tg e (iKeysN td) := by
  refine ⟨fun pins s σ H R I h => ?_⟩
  refine thn (he.run pins s σ H _ I h) fun u s1 ⟨x, H1, I1, rx, d, o, kb, ex, hd, q⟩ => ?_
  subst ex
  obtain rfl : u = Value.ref d := rx
  obtain ⟨hs, hgd, hx, es, ep, hdt, hsz, _⟩ := frzN I1 hd
  refine iter_keys hs hgd hx hdt (pi_one (tk := s1.toks) I1 _ (turn_keysN _ hdt) ⟨_, Heap.get?_push_size _ rfl, rfl, ?_⟩ q)
  rw [hsz] <;> rfl
end MM


namespace MM
open PySem PySem.Spec PyProof.Rows L2
variable [Tb]

/-! ### the order of lists -/
structure Lin {α : Type} (lt : α → α → Bool) : Prop where
  asym : ∀ x y, lt x y = true → lt y x = false
  tr : ∀ x y z, lt y x = false → lt z y = false → lt z x = false
  tot : ∀ x y, lt x y = false → lt y x = false → x = y
section
variable {α : Type} [DecidableEq α]
def lexG (lt : α → α → Bool) : List α → List α → Bool
  | [], [] => false
  | [], _ :: _ => true
  | _ :: _, [] => false
  | x :: xs, y :: ys => if x = y then lexG lt xs ys else lt x y
theorem Lin.irr {lt : α → α → Bool} (h : Lin lt) (x : α) : lt x x = false := by
  cases e : lt x x with
  | false => rfl
  | true => rw [h.asym x x e] at e; cases e
theorem lexG_lin {lt : α → α → Bool} (h : Lin lt) : Lin (lexG lt) where
  asym := by
    intro x
    induction x with
    | nil => intro y e; cases y <;> simp_all [lexG]
    | cons a x ih =>
      intro y e
      cases y with
      | nil => simp [lexG] at e
      | cons b y =>
        unfold lexG at e ⊢
        by_cases c : a = b
        · subst c
          simp only [if_true] at e ⊢
          exact ih y e
        · rw [if_neg c] at e
          rw [if_neg (fun z => c z.symm)]
          exact h.asym _ _ e
  tot := by
    intro x
    induction x with
    | nil => intro y e f; cases y <;> simp_all [lexG]
    | cons a x ih =>
      intro y e f
      cases y with
      | nil => simp [lexG] at f
      | cons b y =>
        unfold lexG at e f
        by_cases c : a = b
        · subst c
          simp only [if_true] at e f
          rw [ih y e f]
        · rw [if_neg c] at e
          rw [if_neg (fun z => c z.symm)] at f
          exact absurd (h.tot _ _ e f) c
  tr := by
    intro x
    induction x with
    | nil =>
      intro y z e f
      cases y with
      | nil => exact f
      | cons b y =>
        cases z with
        | nil => rfl
        | cons c z => rfl
    | cons a x ih =>
      intro y z e f
      cases y with
      | nil => simp [lexG] at e
      | cons b y =>
        cases z with
        | nil => simp [lexG] at f
        | cons c z =>
          unfold lexG at e f ⊢
          by_cases c1 : b = a
          · subst c1
            simp only [if_true] at e
            by_cases c2 : c = b
            · subst c2
              simp only [if_true] at f ⊢
              exact ih y z e f
            · rw [if_neg c2] at f ⊢
              exact f
          · rw [if_neg c1] at e
            by_cases c2 : c = b
            · subst c2
              rw [if_neg c1]
              exact e
            · rw [if_neg c2] at f
              by_cases c3 : c = a
              · subst c3
                exact absurd (h.tot _ _ f e) c2
              · rw [if_neg c3]
                exact h.tr _ _ _ e f
end
theorem lin_int : Lin (fun a b : Int => decide (a < b)) where
  asym := by intro x y h; simp at *; omega
  tr := by intro x y z h k; simp at *; omega
  tot := by intro x y h k; simp at *; omega
theorem lexLt_eq : HT.lexLt = lexG (fun a b : Int => decide (a < b)) := by
  funext x
  induction x with
  | nil => funext y; cases y <;> rfl
  | cons a x ih =>
    funext y
    cases y with
    | nil => rfl
    | cons b y =>
      show (if a = b then HT.lexLt x y else decide (a < b)) = _
      rw [ih]
      rfl
theorem lin_lex : Lin HT.lexLt := lexLt_eq ▸ lexG_lin lin_int
def lexL : List (List Int) → List (List Int) → Bool := lexG HT.lexLt
theorem lin_lexL : Lin lexL := lexG_lin lin_lex
theorem Lin.swo {α β : Type} {lt : α → α → Bool} (h : Lin lt) (k : β → α) : SrtO.Swo fun x y => lt (k x) (k y) := ⟨fun x y e => h.asym _ _ e, fun x y z e f => h.tr _ _ _ e f⟩

/-! ### tuples of ints and tuples of ints -/
def ElV (h : Heap) (v : Value) (l : List Int) (k : Bool) : Prop := (k = false ∧ ∃ i t, v = .int i t ∧ l = [i]) ∨ (k = true ∧ TS.TupInts h v l)
inductive Els (h : Heap) : List Value → List (List Int) → List Bool → Prop
  | nil : Els h [] [] []
  | cons {v : Value} {l : List Int} {k : Bool} {vs : List Value} {ls : List (List Int)} {ks : List Bool} : ElV h v l k → Els h vs ls ks → Els h (v :: vs) (l :: ls) (k :: ks)
def TupV (h : Heap) (v : Value) (ls : List (List Int)) (ks : List Bool) : Prop := ∃ a o xs n, v = .ref a ∧ h.get? a = some o ∧ o.cls = .type "tuple" ∧ o.data = .seq xs n ∧ Els h xs.toList ls ks
def compat : List Bool → List Bool → Bool
  | a :: x, b :: y => a == b && compat x y
  | _, _ => true
theorem TS_keeps {h h' : Heap} {v : Value} {ns : List Int} (e : ∀ b o, h.get? b = some o → o.cls = .type "tuple" → h'.get? b = some o) (t : TS.TupInts h v ns) : TS.TupInts h' v ns := by
  obtain ⟨a, xs, rfl, ⟨o, h1, h2, h3⟩, h4⟩ := t
  exact ⟨a, xs, rfl, ⟨o, e _ _ h1 h2, h2, h3⟩, h4⟩
theorem Els.keeps {h h' : Heap} (e : ∀ b o, h.get? b = some o → o.cls = .type "tuple" → h'.get? b = some o) {vs : List Value} {ls : List (List Int)} {ks : List Bool} (t : Els h vs ls ks) : Els h' vs ls ks := by
  induction t with
  | nil => exact .nil
  | cons h _ ih => exact .cons (h.imp id fun h => ⟨h.1, TS_keeps e h.2⟩) ih
theorem TupV.keeps {h h' : Heap} (e : ∀ b o, h.get? b = some o → o.cls = .type "tuple" → h'.get? b = some o) {v : Value} {ls : List (List Int)} {ks : List Bool} (t : TupV h v ls ks) : TupV h' v ls ks := by
  obtain ⟨a, o, xs, n, rfl, h1, h2, h3, h4⟩ := t
  exact ⟨a, o, xs, n, rfl, e _ _ h1 h2, h2, h3, h4.keeps e⟩
section
variable {prog : Program} {w : World} {A : Around} {s : Shared}
theorem ints_items : ∀ {vs : List Value} {ns : List Int}, IntsAre vs ns → ItemsAre (intKind prog w) ns vs
  | _, _, .nil => .nil
  | _, _, .cons n t r => .cons (by simp [PySem.intKind, Value.isInt]) (ints_items r)
theorem el_eq {p q : Value} {l m : List Int} {k : Bool} {E : Value → Shared → Prop} {Q : Bool → Shared → Prop} (hu : A.units < cLine) (hp : ElV s.heap p l k) (hq : ElV s.heap q m k) (h : Q (decide (l = m)) s) : wpAny (model prog w) A (eqBool p q) Q E s := by
  rcases hp with ⟨rfl, i, t, rfl, rfl⟩ | ⟨rfl, a, xs, rfl, ⟨o, h1, h2, n, h3⟩, h4⟩
  · rcases hq with ⟨_, j, u, rfl, rfl⟩ | ⟨z, _⟩
    · refine SeqAt.EqAt.int_int i t j u prog w E Q ?_
      have e : (i == j) = decide ([i] = [j]) := by
        by_cases c : i = j <;> simp [c]
      rw [e]
      exact h
    · cases z
  · rcases hq with ⟨z, _⟩ | ⟨_, a', xs', rfl, ⟨o', h1', h2', n', h3'⟩, h4'⟩
    · cases z
    · exact wpAny_eqBool_tuple (knd := intKind prog w) hu ⟨o, xs, n, h1, h2, h3, ints_items h4⟩ ⟨o', xs', n', h1', h2', h3', ints_items h4'⟩ h
theorem el_lt {p q : Value} {l m : List Int} {k b : Bool} {Q : Bool → Shared → Prop} (hu : A.units < cLine) (hb : b = true → k = false) (hp : ElV s.heap p l k) (hq : ElV s.heap q m k) (h : Q (HT.lexLt l m) s) : wpAny (model prog w) A (oneLt' b p q) Q (fun _ _ => False) s := by
  rcases hp with ⟨rfl, i, t, rfl, rfl⟩ | ⟨rfl, a, xs, rfl, hx, h4⟩
  · rcases hq with ⟨_, j, u, rfl, rfl⟩ | ⟨z, _⟩
    · have e : HT.lexLt [i] [j] = decide (i < j) := by
        show (if i = j then false else decide (i < j)) = _
        by_cases c : i = j
        · subst c; simp
        · rw [if_neg c]
      rw [e] at h
      cases b with
      | true => exact oneLt_int h
      | false =>
        refine W.kat_one (E := fun _ _ => False) _ _ ?_
        exact lt_int h
    · cases z
  · rcases hq with ⟨z, _⟩ | ⟨_, a', xs', rfl, hx', h4'⟩
    · cases z
    · cases b with
      | true => exact absurd (hb rfl) (by simp)
      | false =>
        refine W.kat_one (E := fun _ _ => False) _ _ ?_
        exact HT.lt_tupInts hx hx' h4 h4' hu h
theorem els_lex (hu : A.units < cLine) {b : Bool} {Q : Bool → Shared → Prop} {xs ys : List Value} {ls ms : List (List Int)} {ks js : List Bool} (hx : Els s.heap xs ls ks) (hy : Els s.heap ys ms js) (hc : compat ks js = true) (i : Nat)
    (hb : b = true → i = 0 → ∀ k r, ks = k :: r → k = false) (hq : Q (lexL ls ms) s) : W.KatLex prog w A b (decide (xs.length < ys.length)) Q (xs.zip ys) i s := by
  induction hx generalizing ys ms js i with
  | nil =>
    cases hy with
    | nil => exact W.kat_nil hq
    | cons _ _ => exact W.kat_nil hq
  | @cons p l k vs ls ks hp t ih =>
    cases hy with
    | nil => exact W.kat_nil hq
    | @cons q m j us ms js h' t' =>
      have c1 : (k == j && compat ks js) = true := hc
      rw [Bool.and_eq_true] at c1
      have c2 : k = j := by simpa using c1.1
      subst c2
      rw [List.zip_cons_cons]
      refine W.kat_cons (el_eq hu hp h' ?_)
      have ef : decide ((p :: vs).length < (q :: us).length) = decide (vs.length < us.length) := by simp
      rw [ef]
      refine W.kat_go (fun e => ?_) fun e => ?_
      · have e : l = m := by simpa using e
        refine W.kat_yes (ih t' c1.2 (i + 1) (fun _ z => by omega) ?_)
        have : lexL (l :: ls) (m :: ms) = lexL ls ms := by
          show (if l = m then _ else _) = _
          rw [if_pos e]
          rfl
        rw [this] at hq
        exact hq
      · have e : ¬ l = m := by simpa using e
        refine W.kat_no (el_lt hu (fun z => ?_) hp h' ?_)
        · simp only [Bool.and_eq_true, beq_iff_eq] at z
          exact hb z.1 z.2 k ks rfl
        · have : lexL (l :: ls) (m :: ms) = HT.lexLt l m := by
            show (if l = m then _ else _) = _
            rw [if_neg e]
          rw [this] at hq
          exact hq
theorem tup_cmp (hu : A.units < cLine) {b : Bool} {u v : Value} {ls ms : List (List Int)} {ks js : List Bool} (h1 : TupV s.heap u ls ks) (h2 : TupV s.heap v ms js) (hc : compat ks js = true) (hb : b = true → ∀ k r, ks = k :: r → k = false) :
    wpAny (model prog w) A (keyLt' (tuples' b) u v) (fun r s' => s' = s ∧ r = lexL ls ms) (fun _ _ => False) s := by
  obtain ⟨a, o, xs, n, rfl, p1, p2, p3, p4⟩ := h1
  obtain ⟨a', o', xs', n', rfl, q1, q2, q3, q4⟩ := h2
  refine W.kat_lt p1 p3 q1 q3 ?_
  have e : decide (xs.size < xs'.size) = decide (xs.toList.length < xs'.toList.length) := by simp
  rw [e]
  exact els_lex hu p4 q4 hc 0 (fun z _ => hb z) ⟨rfl, rfl⟩
end
/-! ### sorted(l) of tuples -/
def firstK (ks : List Bool) (k : Bool) : Prop := ks.head? = some k
section
variable {prog : Program} {w : World}
theorem kat_tups {h : Heap} : ∀ {vs : List Value}, (∀ v ∈ vs, ∃ ls ks k, TupV h v ls ks ∧ firstK ks k) → ∃ fs : List Value, W.KatTups h vs fs ∧ fs.length = vs.length ∧ ∀ f ∈ fs, ∃ v ∈ vs, ∀ ls ks k, TupV h v ls ks → firstK ks k → ∃ l, ElV h f l k
  | [], _ => ⟨[], trivial, rfl, fun _ m => by cases m⟩
  | v :: vs, H => by
    obtain ⟨fs, h1, h2, h3⟩ := kat_tups (vs := vs) fun u m => H u (List.mem_cons_of_mem _ m)
    obtain ⟨ls, ks, k, ⟨a, o, xs, n, rfl, p1, p2, p3, p4⟩, hf⟩ := H v (List.mem_cons_self ..)
    have hx : ∃ f r, xs.toList = f :: r := by
      cases hh : xs.toList with
      | nil =>
        rw [hh] at p4
        cases p4
        cases hf
      | cons f r => exact ⟨f, r, rfl⟩
    obtain ⟨f, r, hx⟩ := hx
    refine ⟨f :: fs, ⟨⟨a, o, xs, n, rfl, p1, p2, p3, ?_⟩, h1⟩, by simp [h2], fun g m => ?_⟩
    · rw [← Array.getElem?_toList, hx]
      rfl
    · rcases List.mem_cons.mp m with rfl | m
      · refine ⟨_, List.mem_cons_self .., fun ls' ks' k' t' f' => ?_⟩
        obtain ⟨b, o', xs', n', e, q1, q2, q3, q4⟩ := t'
        cases e
        rw [p1] at q1
        cases q1
        rw [p3] at q3
        cases q3
        rw [hx] at q4
        cases q4 with
        | cons h t =>
          cases f'
          exact ⟨_, h⟩
      · obtain ⟨v, mv, hv⟩ := h3 g m
        exact ⟨v, List.mem_cons_of_mem _ mv, hv⟩
theorem looks_el {h : Heap} {f : Value} {l : List Int} {k : Bool} (e : ElV h f l k) : W.Looks (model prog w) h (typeOf f) (.type (if k then "tuple" else "int")) := by
  rcases e with ⟨rfl, i, t, rfl, rfl⟩ | ⟨rfl, a, xs, rfl, ⟨o, h1, h2, n, h3⟩, h4⟩
  · exact W.Looks.now
  · intro A Q E s kp q
    exact wpAny_typeOf_ref (kp _ _ h1) (by rw [h2]; exact q)
theorem tups_sortable {A : Around} {s : Shared} {a : Addr} {vs : List Value} {kf : Value → List (List Int)} {k0 : Bool} (hu : A.units < cLine) (h0 : 0 < vs.length)
    (hp : ∀ v ∈ vs, ∃ ks, TupV s.heap v (kf v) ks ∧ firstK ks k0) (hc : ∀ v ∈ vs, ∀ u ∈ vs, ∀ ks js, TupV s.heap v (kf v) ks → TupV s.heap u (kf u) js → compat ks js = true)
    (ha : ∀ o, s.heap.get? a = some o → o.cls ≠ .type "tuple") : SrtO.SortableO prog w A s a vs fun v u => lexL (kf v) (kf u) := by
  intro h' keep
  have kp : ∀ b o, s.heap.get? b = some o → o.cls = .type "tuple" → h'.get? b = some o := fun b o e c => keep b o (fun z => by subst z; exact ha o e c) e
  have hp' : ∀ v ∈ vs, ∃ ls ks k, TupV h' v ls ks ∧ firstK ks k := fun v m => by
    obtain ⟨ks, t, f⟩ := hp v m
    exact ⟨_, ks, _, t.keeps kp, f⟩
  obtain ⟨fs, f1, f2, f3⟩ := kat_tups hp'
  refine ⟨tuples' (Value.type (if k0 then "tuple" else "int") != .type "tuple"), fun Q E hq => ?_, fun p q hm hm' => ?_⟩
  · refine W.kat_kind f1 (by omega) (T := .type (if k0 then "tuple" else "int")) (fun f m => ?_) (by cases k0 <;> rfl) hq
    obtain ⟨v, mv, hv⟩ := f3 f m
    obtain ⟨ks, t, ff⟩ := hp v mv
    obtain ⟨l, hl⟩ := hv _ _ _ (t.keeps kp) ff
    exact looks_el hl
  · obtain ⟨ks, t1, f1⟩ := hp p.1 hm
    obtain ⟨js, t2, f2⟩ := hp q.1 hm'
    refine tup_cmp hu (t1.keeps kp) (t2.keeps kp) (hc _ hm _ hm' _ _ t1 t2) fun z k r e => ?_
    subst e
    cases f1
    cases k0 with
    | false => rfl
    | true => exact absurd z (by decide)
end
/-! ### at the hand layer -/
def ElH (K : PySem.W.Frag) (H : Hp) (v : V) (l : List Int) (k : Bool) : Prop := (k = false ∧ ∃ i, v = .int i ∧ l = [i]) ∨ (k = true ∧ ∃ t, v = .ref t ∧ SqT K H t (l.map V.int))
inductive ElsH (K : PySem.W.Frag) (H : Hp) : List V → List (List Int) → List Bool → Prop
  | nil : ElsH K H [] [] []
  | cons {v : V} {l : List Int} {k : Bool} {vs : List V} {ls : List (List Int)} {ks : List Bool} : ElH K H v l k → ElsH K H vs ls ks → ElsH K H (v :: vs) (l :: ls) (k :: ks)
def TupH (K : PySem.W.Frag) (H : Hp) (v : V) (ls : List (List Int)) (ks : List Bool) : Prop := ∃ t es, v = .ref t ∧ H t = some (.tup es) ∧ ElsH K H es ls ks
def rSortG (K : PySem.W.Frag) : List V → Hp → VK → Prop := fun vs H Q => ∃ (a : Addr) (xs : List V) (kf : V → List (List Int)) (kk : V → List Bool) (k0 : Bool), vs = [.ref a] ∧ SqL K H a xs ∧
  (∀ x ∈ xs, TupH K H x (kf x) (kk x) ∧ firstK (kk x) k0) ∧ (∀ x ∈ xs, ∀ y ∈ xs, compat (kk x) (kk y) = true) ∧
  ∀ ys p, SrtO.Srtd (fun x y => lexL (kf x) (kf y)) ys → SrtO.Stb (fun x y => lexL (kf x) (kf y)) ys xs → H p = none → Q (.ref p) (upd H p (.lst ys))
theorem els_raw {X : Cx} {pins : List (Addr × Obj)} {σ : L2.St} {H : Hp} {s : Shared} (I : Inv X pins σ H s) {es : List V} {ls : List (List Int)} {ks : List Bool} (e : ElsH X.K H es ls ks) : ∀ {us : List Value}, Vals es us → Els s.heap us ls ks := by
  induction e with
  | nil =>
    intro us r
    cases r
    exact .nil
  | cons h _ ih =>
    intro us r
    cases r with
    | cons r1 r2 =>
      refine .cons ?_ (ih r2)
      rcases h with ⟨rfl, i, rfl, rfl⟩ | ⟨rfl, t, rfl, ht⟩
      · obtain ⟨tk, rfl⟩ := r1
        exact .inl ⟨rfl, i, tk, rfl, rfl⟩
      · cases r1
        exact .inr ⟨rfl, tupI_raw I ht⟩
theorem tup_raw {X : Cx} {pins : List (Addr × Obj)} {σ : L2.St} {H : Hp} {s : Shared} (I : Inv X pins σ H s) {t : Addr} {ls : List (List Int)} {ks : List Bool} (h : TupH X.K H (.ref t) ls ks) : TupV s.heap (.ref t) ls ks := by
  obtain ⟨t', es, e, ht, he⟩ := h
  cases e
  obtain ⟨_, its, rv, o, h1, h2, n, h3⟩ := (show ObjOk X.prog X.w H s.heap t (.tup es) from I.hok t _ ht)
  exact ⟨t, o, its.toArray, n, rfl, h1, h2, h3, els_raw I he rv⟩
theorem Els.kinds {h : Heap} {vs : List Value} {ls ms : List (List Int)} {ks js : List Bool} (a : Els h vs ls ks) (b : Els h vs ms js) : ks = js := by
  induction a generalizing ms js with
  | nil =>
    cases b
    rfl
  | cons h _ ih =>
    cases b with
    | cons h' t' =>
      rw [ih t']
      congr 1
      rcases h with ⟨rfl, i, t, rfl, _⟩ | ⟨rfl, z⟩
      · rcases h' with ⟨rfl, _⟩ | ⟨_, _, _, e, _⟩
        · rfl
        · cases e
      · rcases h' with ⟨_, _, _, rfl, _⟩ | ⟨rfl, _⟩
        · obtain ⟨_, _, e, _⟩ := z
          cases e
        · rfl
theorem TupV.kinds {h : Heap} {v : Value} {ls ms : List (List Int)} {ks js : List Bool} (a : TupV h v ls ks) (b : TupV h v ms js) : ks = js := by
  obtain ⟨t, o, xs, n, rfl, p1, p2, p3, p4⟩ := a
  obtain ⟨t', o', xs', n', e, q1, q2, q3, q4⟩ := b
  cases e
  rw [p1] at q1
  cases q1
  rw [p3] at q3
  cases q3
  exact p4.kinds q4
theorem cr_sortG {X : Cx} (hu : X.A.units + 2 < cLine) : CallR X (.builtin "sorted") (rSortG X.K) := by
  intro pins s σ H vs us Q I r h
  obtain ⟨a, xs, kf, kk, k0, rfl, hs, hx, hcc, q⟩ := h
  obtain ⟨its, rv, hl, hz⟩ := I.list hs
  rw [Vals.ref1 r]
  obtain ⟨e1, e2⟩ := refs_back rv fun x m => by
    obtain ⟨⟨t, es, e, _⟩, _⟩ := hx x m
    exact ⟨t, e⟩
  have hV : ∀ v ∈ its, TupV s.heap v (kf (backV v)) (kk (backV v)) ∧ firstK (kk (backV v)) k0 := fun v m => by
    obtain ⟨t, rfl⟩ := e2 v m
    have mx : V.ref t ∈ xs := by rw [e1]; exact List.mem_map.mpr ⟨_, m, rfl⟩
    obtain ⟨h1, h2⟩ := hx _ mx
    exact ⟨tup_raw I h1, h2⟩
  have hm : ∀ v ∈ its, backV v ∈ xs := fun v m => by rw [e1]; exact List.mem_map.mpr ⟨_, m, rfl⟩
  have hlen := Vals.length rv
  refine SrtO.sorted_ord (lin_lexL.swo fun v => kf (backV v)) (PlainL.isList hl) (by omega) (fun h2 h₁ b hb kp => ?_) fun out h1 h2 => ?_
  · have kp' : ∀ b o, s.heap.get? b = some o → o.cls = .type "tuple" → h₁.get? b = some o := fun b o e _ => (kp b o e).2
    refine tups_sortable (kf := fun v => kf (backV v)) (k0 := k0) (by show X.A.units + 1 + 1 < cLine; omega) (by omega) (fun v m => ⟨_, (hV v m).1.keeps kp', (hV v m).2⟩) (fun v m u m' ks js t1 t2 => ?_) fun o e c => ?_
    · rw [← ((hV v m).1.keeps kp').kinds t1, ← ((hV u m').1.keeps kp').kinds t2]
      exact hcc _ (hm v m) _ (hm u m')
    · have e : h₁.get? b = some o := e
      rw [hb] at e
      cases e
      exact absurd (Value.type.inj c) (by decide)
  · obtain ⟨ep, he'⟩ := sortedAll_at s.heap its out.toArray
    have h3 : ∀ u ∈ out, ∃ t, u = Value.ref t := fun u m => e2 u ((List.Perm.mem_iff h2.perm).mp m)
    have hb : SrtO.Stb (fun x y => lexL (kf x) (kf y)) (out.map backV) (its.map backV) := SrtO.Stb.map (lin_lexL.swo kf) backV h2
    rw [← e1] at hb
    refine ⟨.ref (s.heap.objs.size + 1), upd H (s.heap.objs.size + 1) (.lst (out.map backV)), I.laid (fun _ _ => sortedAll_old) (Nat.le_succ _) ⟨?_, out, ep, vals_back h3, he'⟩, rfl, q (out.map backV) _ (SrtO.srtd_map h1) hb (I.hok.fresh (Nat.le_succ _))⟩
    rw [hb.len]
    exact hz
end MM


namespace MM
open PySem PySem.Spec PyProof.Rows L2
variable [Tb]

/-! ### sorted(l) of tuples: over data -/
def encE : PyData → Option (List Int × Bool)
  | .int i => some ([i], false)
  | .tuple ds => (intsOf ds).map fun ns => (ns, true)
  | _ => none
def encL : List PyData → Option (List (List Int) × List Bool)
  | [] => some ([], [])
  | d :: r => (encE d).bind fun e => (encL r).map fun x => (e.1 :: x.1, e.2 :: x.2)
def encT : PyData → Option (List (List Int) × List Bool)
  | .tuple ds => encL ds
  | _ => none
def kD (d : PyData) : List (List Int) := ((encT d).map (·.1)).getD []
def kK (d : PyData) : List Bool := ((encT d).map (·.2)).getD []
def okS (ds : List PyData) : Option Unit := match ds with
  | [] => some ()
  | d :: _ => match kK d with
    | [] => none
    | k0 :: _ => if (ds.all fun x => (encT x).isSome && decide ((kK x).head? = some k0)) && (ds.all fun x => ds.all fun y => compat (kK x) (kK y)) then some () else none
def sortT (ds : List PyData) : List PyData := ds.mergeSort fun a b => !lexL (kD b) (kD a)
def fSortT : PyData → Option (List PyData)
  | .list ds => (okS ds).bind fun _ => some (sortT ds)
  | _ => none
theorem encE_inj {x y : PyData} {l : List Int} {k : Bool} (h1 : encE x = some (l, k)) (h2 : encE y = some (l, k)) : x = y := by
  cases x <;> simp only [encE] at h1 <;> first | (cases h1; done) | skip
  · cases h1
    cases y <;> simp only [encE] at h2 <;> first | (cases h2; done) | skip
    · cases h2; rfl
    · obtain ⟨ns, _, e⟩ := Option.map_eq_some_iff.mp h2
      cases e
  · obtain ⟨ns, e1, e⟩ := Option.map_eq_some_iff.mp h1
    cases e
    cases y <;> simp only [encE] at h2 <;> first | (cases h2; done) | skip
    · obtain ⟨ms, e2, e⟩ := Option.map_eq_some_iff.mp h2
      cases e
      rw [intsOf_eq e1, intsOf_eq e2]
theorem encL_inj : ∀ {x y : List PyData} {ls : List (List Int)} {ks : List Bool}, encL x = some (ls, ks) → encL y = some (ls, ks) → x = y
  | [], y, ls, ks, h1, h2 => by
    cases h1
    cases y with
    | nil => rfl
    | cons d r =>
      simp only [encL] at h2
      obtain ⟨e, _, h2⟩ := Option.bind_eq_some_iff.mp h2
      obtain ⟨z, _, h2⟩ := Option.map_eq_some_iff.mp h2
      cases h2
  | d :: r, y, ls, ks, h1, h2 => by
    simp only [encL] at h1
    obtain ⟨⟨l, k⟩, e1, h1⟩ := Option.bind_eq_some_iff.mp h1
    obtain ⟨⟨ls', ks'⟩, e2, h1⟩ := Option.map_eq_some_iff.mp h1
    cases h1
    cases y with
    | nil => cases h2
    | cons d' r' =>
      simp only [encL] at h2
      obtain ⟨⟨l', k'⟩, e3, h2⟩ := Option.bind_eq_some_iff.mp h2
      obtain ⟨⟨ls'', ks''⟩, e4, h2⟩ := Option.map_eq_some_iff.mp h2
      cases h2
      rw [encE_inj e1 e3, encL_inj e2 e4]
theorem encT_inj {x y : PyData} {e : List (List Int) × List Bool} (h1 : encT x = some e) (h2 : encT y = some e) : x = y := by
  cases x <;> simp only [encT] at h1 <;> first | (cases h1; done) | skip
  cases y <;> simp only [encT] at h2 <;> first | (cases h2; done) | skip
  obtain ⟨ls, ks⟩ := e
  rw [encL_inj h1 h2]
theorem encL_len : ∀ {x : List PyData} {ls : List (List Int)} {ks : List Bool}, encL x = some (ls, ks) → ls.length = ks.length
  | [], ls, ks, h1 => by
    cases h1
    rfl
  | d :: r, ls, ks, h1 => by
    simp only [encL] at h1
    obtain ⟨⟨l, k⟩, e1, h1⟩ := Option.bind_eq_some_iff.mp h1
    obtain ⟨⟨ls', ks'⟩, e2, h1⟩ := Option.map_eq_some_iff.mp h1
    cases h1
    simp [encL_len e2]
theorem compat_eq : ∀ {a b : List Bool}, compat a b = true → a.length = b.length → a = b
  | [], [], _, _ => rfl
  | x :: a, y :: b, h, l => by
    have h : (x == y && compat a b) = true := h
    rw [Bool.and_eq_true] at h
    have e : x = y := by simpa using h.1
    rw [e, compat_eq h.2 (by simpa using l)]
/-! what frozen data the heap shows -/
mutual
theorem Da.fn {F : Hp} : ∀ {d e : PyData} {v : V}, Da F v d → Da F v e → d = e
  | _, _, _, .non, h => by cases h; rfl
  | _, _, _, .bl b, h => by cases h; rfl
  | _, _, _, .int i, h => by cases h; rfl
  | _, _, _, .str x, h => by cases h; rfl
  | _, _, _, .lst p a, h => by
    cases h with
    | lst p' a' =>
      rw [p] at p'
      cases p'
      rw [DaAll.fn a a']
    | tup p' a' =>
      rw [p] at p'
      cases p'
  | _, _, _, .tup p a, h => by
    cases h with
    | lst p' a' =>
      rw [p] at p'
      cases p'
    | tup p' a' =>
      rw [p] at p'
      cases p'
      rw [DaAll.fn a a']
theorem DaAll.fn {F : Hp} : ∀ {ds es : List PyData} {vs : List V}, DaAll F vs ds → DaAll F vs es → ds = es
  | _, _, _, .nil, h => by cases h; rfl
  | _, _, _, .cons a t, h => by
    cases h with
    | cons a' t' => rw [Da.fn a a', DaAll.fn t t']
end
theorem DaAll.perm {F : Hp} {xs ys : List V} (p : ys.Perm xs) : ∀ {ds : List PyData}, DaAll F xs ds → ∃ es, DaAll F ys es ∧ es.Perm ds := by
  have : ∀ {a b : List V}, a.Perm b → ∀ {ds : List PyData}, DaAll F a ds → ∃ es, DaAll F b es ∧ es.Perm ds := by
    intro a b p
    induction p with
    | nil => intro ds h; exact ⟨ds, h, .refl _⟩
    | cons x _ ih =>
      intro ds h
      cases h with
      | cons h t =>
        obtain ⟨es, h1, h2⟩ := ih t
        exact ⟨_ :: es, .cons h h1, h2.cons _⟩
    | swap x y l =>
      intro ds h
      cases h with
      | cons h t =>
        cases t with
        | cons h' t =>
          exact ⟨_, .cons h' (.cons h t), .swap ..⟩
    | trans _ _ ih1 ih2 =>
      intro ds h
      obtain ⟨es, h1, h2⟩ := ih1 h
      obtain ⟨fs, h3, h4⟩ := ih2 h1
      exact ⟨fs, h3, h4.trans h2⟩
  exact fun {ds} h => this p.symm h
open Classical in
noncomputable def dF (F : Hp) (v : V) : PyData := if h : ∃ d, Da F v d then h.choose else .none
theorem dF_eq {F : Hp} {v : V} {d : PyData} (h : Da F v d) : dF F v = d := by
  unfold dF
  rw [dif_pos ⟨d, h⟩]
  exact Da.fn (Exists.choose_spec (⟨d, h⟩ : ∃ d, Da F v d)) h
theorem DaAll.pw {F : Hp} {R : PyData → PyData → Prop} : ∀ {ys : List V} {es : List PyData}, DaAll F ys es → ys.Pairwise (fun x y => R (dF F x) (dF F y)) → es.Pairwise R
  | _, _, .nil, _ => .nil
  | y :: ys, e :: es, .cons h t, p => by
    rw [List.pairwise_cons] at p
    refine .cons (fun e' m => ?_) (DaAll.pw t p.2)
    obtain ⟨i, hi⟩ := List.mem_iff_getElem?.mp m
    obtain ⟨v, hv, hd⟩ := t.get hi
    have := p.1 v (List.mem_of_getElem? hv)
    rw [dF_eq h, dF_eq hd] at this
    exact this
theorem DaAll.mem {F : Hp} {vs : List V} {ds : List PyData} (h : DaAll F vs ds) {v : V} (m : v ∈ vs) : ∃ d ∈ ds, Da F v d := by
  obtain ⟨i, hi⟩ := List.mem_iff_getElem?.mp m
  obtain ⟨d, h1, h2⟩ := h.get' hi
  exact ⟨d, List.mem_of_getElem? h1, h2⟩
theorem els_da {K : PySem.W.Frag} {F H : Hp} (x : Ex F H) : ∀ {es : List PyData} {vs : List V} {ls : List (List Int)} {ks : List Bool}, DaAll F vs es → encL es = some (ls, ks) → ElsH K H vs ls ks
  | _, _, _, _, .nil, h => by
    cases h
    exact .nil
  | d :: r, v :: vs, ls, ks, .cons a t, h => by
    simp only [encL] at h
    obtain ⟨⟨l, k⟩, e1, h⟩ := Option.bind_eq_some_iff.mp h
    obtain ⟨⟨ls', ks'⟩, e2, h⟩ := Option.map_eq_some_iff.mp h
    cases h
    refine .cons ?_ (els_da x t e2)
    cases a <;> simp only [encE] at e1 <;> first | (cases e1; done) | skip
    · cases e1
      exact .inl ⟨rfl, _, rfl, rfl⟩
    · rename_i p a'
      obtain ⟨ns, e3, e⟩ := Option.map_eq_some_iff.mp e1
      cases e
      have e4 := intsOf_eq e3
      subst e4
      have := da_ints a'
      subst this
      exact .inr ⟨rfl, _, rfl, .inl (.inl (x _ _ p))⟩
theorem tup_da {K : PySem.W.Frag} {F H : Hp} (x : Ex F H) {v : V} {d : PyData} (a : Da F v d) (h : (encT d).isSome = true) : TupH K H v (kD d) (kK d) := by
  obtain ⟨⟨ls, ks⟩, e⟩ := Option.isSome_iff_exists.mp h
  have e1 : kD d = ls := by rw [kD, e]; rfl
  have e2 : kK d = ks := by rw [kK, e]; rfl
  rw [e1, e2]
  cases a <;> simp only [encT] at e <;> first | (cases e; done) | skip
  rename_i p a'
  exact ⟨_, _, rfl, x _ _ p, els_da x a' e⟩
theorem sort_uniq {ds es : List PyData} (p : es.Perm ds) (pw : es.Pairwise fun x y => lexL (kD y) (kD x) = false) (inj : ∀ a ∈ ds, ∀ b ∈ ds, kD a = kD b → a = b) : es = sortT ds := by
  have p2 : (sortT ds).Perm ds := List.mergeSort_perm ds _
  have pw2 : (sortT ds).Pairwise fun x y => lexL (kD y) (kD x) = false := by
    have := List.pairwise_mergeSort (le := fun a b => !lexL (kD b) (kD a)) (fun a b c h1 h2 => by
      simp only [Bool.not_eq_true'] at *
      exact lin_lexL.tr _ _ _ h1 h2) (fun a b => by
      simp only [Bool.or_eq_true, Bool.not_eq_true']
      cases e : lexL (kD b) (kD a) with
      | false => exact .inl rfl
      | true => exact .inr (lin_lexL.asym _ _ e)) ds
    exact this.imp fun h => by simpa using h
  refine List.Perm.eq_of_pairwise (fun a b ma mb h k => ?_) pw pw2 (p.trans p2.symm)
  exact inj a (p.mem_iff.mp ma) b (p2.mem_iff.mp mb) (lin_lexL.tot _ _ k h)
theorem okS_spec {ds : List PyData} (h : okS ds = some ()) : ds = [] ∨ ∃ k0, (∀ x ∈ ds, (encT x).isSome = true ∧ (kK x).head? = some k0) ∧ ∀ x ∈ ds, ∀ y ∈ ds, compat (kK x) (kK y) = true := by
  cases ds with
  | nil => exact .inl rfl
  | cons d r =>
    refine .inr ?_
    unfold okS at h
    cases hk : kK d with
    | nil =>
      simp only [hk] at h
      cases h
    | cons k0 ks =>
      simp only [hk] at h
      split at h
      · rename_i z
        rw [Bool.and_eq_true, List.all_eq_true, List.all_eq_true] at z
        refine ⟨k0, fun x m => ?_, fun x m y m' => ?_⟩
        · have := z.1 x m
          rw [Bool.and_eq_true] at this
          exact ⟨this.1, by simpa using this.2⟩
        · exact List.all_eq_true.mp (z.2 x m) y m'
      · cases h
theorem okS_inj {ds : List PyData} (h : okS ds = some ()) : ∀ a ∈ ds, ∀ b ∈ ds, kD a = kD b → a = b := by
  intro a ma b mb e
  rcases okS_spec h with rfl | ⟨k0, h1, h2⟩
  · cases ma
  · obtain ⟨⟨l1, k1⟩, e1⟩ := Option.isSome_iff_exists.mp (h1 a ma).1
    obtain ⟨⟨l2, k2⟩, e2⟩ := Option.isSome_iff_exists.mp (h1 b mb).1
    have c := h2 a ma b mb
    have q1 : kD a = l1 := by rw [kD, e1]; rfl
    have q2 : kD b = l2 := by rw [kD, e2]; rfl
    have r1 : kK a = k1 := by rw [kK, e1]; rfl
    have r2 : kK b = k2 := by rw [kK, e2]; rfl
    rw [q1, q2] at e
    subst e
    rw [r1, r2] at c
    have n1 : l1.length = k1.length := by
      cases a <;> simp only [encT] at e1 <;> first | (cases e1; done) | exact encL_len e1
    have n2 : l1.length = k2.length := by
      cases b <;> simp only [encT] at e2 <;> first | (cases e2; done) | exact encL_len e2
    have := compat_eq c (by omega)
    subst this
    exact encT_inj e1 e2
theorem calll_sortT {K : PySem.W.Frag} : CallL (rSortG K) fSortT := by
  intro a c σ Γ R F H s v d e l h Q q
  unfold fSortT at h
  split at h
  · rename_i ds
    obtain ⟨u, e1, h⟩ := Option.bind_eq_some_iff.mp h
    cases h
    obtain ⟨p, vs, rfl, hp, ha⟩ := l
    have hh : ∃ k0, (∀ x ∈ ds, (encT x).isSome = true ∧ (kK x).head? = some k0) ∧ ∀ x ∈ ds, ∀ y ∈ ds, compat (kK x) (kK y) = true := by
      rcases okS_spec e1 with rfl | h
      · exact ⟨false, ⟨fun _ m => (nomatch m), fun _ m => (nomatch m)⟩⟩
      · exact h
    obtain ⟨k0, h1, h2⟩ := hh
    refine ⟨p, vs, fun v => kD (dF F v), fun v => kK (dF F v), k0, rfl, .inl (.inl hp), fun x m => ?_, fun x m y m' => ?_, fun ys b p1 p2 p3 => ?_⟩
    · obtain ⟨d, md, hd⟩ := ha.mem m
      show TupH K H x (kD (dF F x)) (kK (dF F x)) ∧ firstK (kK (dF F x)) k0
      rw [dF_eq hd]
      exact ⟨tup_da s.ex hd (h1 d md).1, (h1 d md).2⟩
    · obtain ⟨d, md, hd⟩ := ha.mem m
      obtain ⟨d', md', hd'⟩ := ha.mem m'
      show compat (kK (dF F x)) (kK (dF F y)) = true
      rw [dF_eq hd, dF_eq hd']
      exact h2 d md d' md'
    · obtain ⟨es, q1, q2⟩ := ha.perm p2.perm
      have e3 : es = sortT ds := sort_uniq q2 (q1.pw (R := fun x y => lexL (kD y) (kD x) = false) p1) (okS_inj e1)
      subst e3
      exact q _ _ _ _ (Ex.refl F) (s.mine p3) q1
  · cases h
def fSortI : PyData → Option (List PyData)
  | .list ds => (intsOf ds).bind fun ns => some ((sortI ns).map PyData.int)
  | _ => none
theorem calll_sortI {K : PySem.W.Frag} : CallL (rSortedI K) fSortI := by
  intro a c σ Γ R F H s v d e l h Q q
  unfold fSortI at h
  split at h
  · obtain ⟨ns, e1, h⟩ := Option.bind_eq_some_iff.mp h
    cases h
    have e1 := intsOf_eq e1
    subst e1
    obtain ⟨p, vs, rfl, hp, ha⟩ := l
    have b := da_ints ha
    subst b
    refine ⟨p, ns, rfl, .inl (.inl hp), fun ns' p' h1 h2 h3 => ?_⟩
    have e2 : ns' = sortI ns := sorted_uniq (h1.trans (sortI_perm ns).symm) h2 (sortI_pw ns)
    subst e2
    exact q _ _ _ _ (Ex.refl F) (s.mine h3) (ints_da _)
  · cases h
section
variable {X : Cx} {e : Expr} {rr : MR} {pos : Pos}
theorem l_sortT (hu : X.A.units + 2 < cLine) (hg : Gl X "sorted") (hm : X.mg "sorted" = none) (h : PR X e rr) (he : starEach [e] X.env = [(false, eval e X.env)] := by rfl) {p : Pos} : PL X (.Call (.Name "sorted" p) [e] [] pos) (l1 fSortT rr) :=
  let ⟨_, a, b⟩ := h; ⟨_, pe_callB (cr_sortG hu) hg hm (by decide +kernel) (pa_cons a pa_nil he) (by decide) (by decide) he rfl, evl_1 calll_sortT b⟩
theorem l_sortI (hg : Gl X "sorted") (hm : X.mg "sorted" = none) (h : PR X e rr) (he : starEach [e] X.env = [(false, eval e X.env)] := by rfl) {p : Pos} : PL X (.Call (.Name "sorted" p) [e] [] pos) (l1 fSortI rr) :=
  let ⟨_, a, b⟩ := h; ⟨_, pe_callB cr_sortedI hg hm (by decide +kernel) (pa_cons a pa_nil he) (by decide) (by decide) he rfl, evl_1 calll_sortI b⟩
end
end MM


namespace MM
open PySem PySem.Spec PyProof.Rows L2
variable [Tb]
/-! ### a law over a source -/
def mixStep (s c : Int) : Int := (s * 69069 + c * 31 + 5) % 2147483629
def openG (ns : List Int) : Gn := ⟨(ns.map fun i => if i < 0 then -i else i).reverse, 1, ns.foldl mixStep 11, 0⟩
def spOpen (K : PySem.W.Frag) : Sp := fun vs H Q _ => ∃ (sa : Addr) (ns : List Int), vs = [.ref sa] ∧ SqL K H sa (ns.map V.int) ∧ ns.length ≤ 1000 ∧ ∀ a c H', H a = none → H c = none → (∀ b o, H b = some o → H' b = some o) → srcS H' a c (openG ns) → Q (.ref a) H'
def spLaw (K : PySem.W.Frag) : Sp := fun vs H Q _ => ∃ (sa : Addr) (ns : List Int), vs = [.ref sa] ∧ SqL K H sa (ns.map V.int) ∧ ns.length ≤ 63 ∧ LamX.Tabs Tb.T H ∧ (Tb.T.map (·.1)).Nodup ∧ ∀ H', Q (.bl true) H'
def lawG (N : Nat) (ns : List Int) : Ga := .no :: .src (openG ns) :: List.replicate N .no
/-- what a law's body, behind its first row, has to end with -/
def LawOk (N : Nat) (m : MS) : Prop := ∀ ns : List Int, ns.length ≤ 63 → ∃ Γ', m (lawG N ns) = some (.rt (.bool true), Γ')
theorem tabs_list {H : Hp} : ∀ T : List (Addr × Str), LamX.Tabs T H → ∃ tb : List (Array Value), tb.length = T.length ∧ ∀ x ∈ T.zip tb, H x.1.1 = some (.tbl x.2) ∧ TriplesOk x.2.toList ∧ ∀ (pos : Pos) (cv : Value), codeAmong pos x.2.toList = some cv → ∃ c, cv = .ref c ∧ H c = some (LamX.CodeO c x.1.2)
  | [], _ => ⟨[], rfl, fun _ m => nomatch m⟩
  | p :: T, h => by
    obtain ⟨ps, h1, h2, h3⟩ := h p (List.mem_cons_self ..)
    obtain ⟨tb, h4, h5⟩ := tabs_list T fun q m => h q (List.mem_cons_of_mem _ m)
    refine ⟨ps :: tb, by simp [h4], fun x m => ?_⟩
    rw [List.zip_cons_cons] at m
    rcases List.mem_cons.mp m with rfl | m
    · exact ⟨h1, h2, h3⟩
    · exact h5 x m
theorem tb_addrs {tb : List (Array Value)} (h : tb.length = Tb.T.length) : (tbO tb).map (·.1) = Tb.T.map (·.1) := by
  unfold tbO
  rw [List.map_map]
  have : ∀ (T : List (Addr × Str)) (tb : List (Array Value)), tb.length = T.length → (T.zip tb).map ((·.1) ∘ fun x => (x.1.1, HO.tbl x.2)) = T.map (·.1) := by
    intro T
    induction T with
    | nil => intro tb h; rfl
    | cons p T ih =>
      intro tb h
      cases tb with
      | nil => cases h
      | cons x tb =>
        rw [List.zip_cons_cons, List.map_cons, List.map_cons, ih tb (by simpa using h)]
        rfl
  exact this _ _ h
/-- a heap without its tables -/
def noTb (H : Hp) : Hp := fun b => match H b with
  | some (.tbl _) => none
  | o => o
theorem noTb_some {H : Hp} {b : Addr} {o : HO} (h : H b = some o) (n : ∀ ps, o ≠ .tbl ps) : noTb H b = some o := by
  unfold noTb
  rw [h]
  cases o <;> first | rfl | exact absurd rfl (n _)
theorem noTb_of {H : Hp} {b : Addr} {o : HO} (h : noTb H b = some o) : H b = some o ∧ ∀ ps, o ≠ .tbl ps := by
  unfold noTb at h
  split at h
  · cases h
  · rename_i x n
    refine ⟨h, fun ps e => ?_⟩
    subst e
    exact n ps h
theorem noTb_none {H : Hp} {b : Addr} (h : H b = none) : noTb H b = none := by
  unfold noTb
  rw [h]
theorem noTb_tbl {H : Hp} {b : Addr} {ps : Array Value} (h : H b = some (.tbl ps)) : noTb H b = none := by
  unfold noTb
  rw [h]
theorem wd_start {H H' : Hp} {a c : Addr} {g : Gn} (hT : LamX.Tabs Tb.T H) (hn : (Tb.T.map (·.1)).Nodup) (ha : H a = none) (hc : H c = none) (kp : ∀ b o, H b = some o → H' b = some o) (s : srcS H' a c g) : ∃ F, Wd F (srcO a c g ++ []) H' := by
  obtain ⟨tb, h1, h2⟩ := tabs_list Tb.T hT
  have tin : ∀ q ∈ tbO tb, ∃ x ∈ Tb.T.zip tb, q = (x.1.1, .tbl x.2) := fun q m => by
    obtain ⟨x, m1, e⟩ := List.mem_map.mp m
    exact ⟨x, m1, e.symm⟩
  have two : ∀ q ∈ srcO a c g ++ [], q = (a, srcD c g) ∨ q = (c, .lst (g.cells.map V.int)) := fun q m => by simpa [srcO] using m
  refine ⟨noTb H, ⟨tb, ⟨h1, fun x m => ⟨(h2 x m).2.1, fun pos cv z => ?_⟩⟩, fun b o e => kp b o (noTb_of e).1, fun q m => ?_, ?_, fun q m => ?_⟩, fun b ps e => (noTb_of e).2 ps rfl, fun q m => ?_⟩
  · obtain ⟨d, e1, e2⟩ := (h2 x m).2.2 pos cv z
    exact ⟨d, e1, noTb_some e2 (by intro ps h; unfold LamX.CodeO at h; cases h)⟩
  · rcases List.mem_append.mp m with m | m
    · obtain ⟨x, m2, rfl⟩ := tin q m
      exact ⟨kp _ _ (h2 x m2).1, noTb_tbl (h2 x m2).1⟩
    · rcases two q m with rfl | rfl
      · exact ⟨s.1, noTb_none ha⟩
      · exact ⟨s.2.1, noTb_none hc⟩
  · rw [List.map_append, tb_addrs h1]
    refine List.nodup_append.mpr ⟨hn, ?_, fun x m y m' e => ?_⟩
    · show [a, c].Nodup
      simp [s.2.2]
    · subst e
      rw [← tb_addrs h1] at m
      obtain ⟨q, m1, e⟩ := List.mem_map.mp m
      obtain ⟨z, m2, rfl⟩ := tin q m1
      have e1 := (h2 z m2).1
      have e : z.1.1 = x := e
      rw [e] at e1
      have m' : x = a ∨ x = c := by simpa [srcO] using m'
      rcases m' with rfl | rfl
      · rw [ha] at e1; cases e1
      · rw [hc] at e1; cases e1
  · rcases List.mem_append.mp m with m | m
    · obtain ⟨x, m2, rfl⟩ := tin q m
      intro xs e
      cases e
    · rcases two q m with rfl | rfl
      · intro xs e
        cases e
      · intro xs e
        cases e
  · rcases two q m with rfl | rfl
    · exact ⟨fun _ h => (nomatch h), fun _ _ h => by unfold LamX.CodeO at h; cases h⟩
    · exact ⟨fun _ h => (nomatch h), fun _ _ h => by unfold LamX.CodeO at h; cases h⟩
theorem read_law {t : TS} {m : MS} {N : Nat} {K : PySem.W.Frag} {H : Hp} {Q : VK} {sa : Addr} {ns : List Int} (h : EvS t m) (hok : LawOk N m)
    (hS : SqL K H sa (ns.map V.int)) (hl : ns.length ≤ 63) (hT : LamX.Tabs Tb.T H) (hnd : (Tb.T.map (·.1)).Nodup) (q : ∀ H', Q (.bl true) H') (E : XK) :
    tSeq (tAsg (tCall (spOpen K) [] E (tCons (tVar 0) tNil)) (gName 1)) t { nx := fun _ H' => Q .non H', rt := Q } (some (.ref sa) :: none :: List.replicate N none) H := by
  refine ⟨.ref sa, rfl, sa, ns, rfl, hS, by omega, fun a c H' ha hc kp s => ?_⟩
  obtain ⟨Γ', e⟩ := hok ns hl
  obtain ⟨F, w⟩ := wd_start hT hnd ha hc kp s
  have st : Sta a c (some (.ref sa) :: some (.ref a) :: List.replicate N none) (lawG N ns) [] F H' := by
    refine ⟨_, .cons .no (.cons .src (rep_no N)), ?_⟩
    rw [List.nil_append, List.append_nil]
    exact w
  refine h a c _ _ [] F H' st _ Γ' e _ ?_
  intro v σ' F' H2 x s' h'
  cases h'
  exact q H2
section
variable {P : Program} {w : World} {K : PySem.W.Frag} {mg : Str → Option Value} {base : Heap}
theorem fn_law {x qual : Str} {st : Stmt} {f : Addr} {fd : FuncData} {Ns : List Str} {k N : Nat} {m : MS} (F : Fun K x qual st f fd) (S : FnScope Ns ["script"] (defScope st)) (hn : Ns.length = N + 2) (hok : LawOk N m)
    (hb : ∀ (cdv : Value) (A : Around) (outer : List Env) (s : Shared) (H : Hp) (E : XK), Room k (A.deeper (envOfC qual (defScope st) s.heap.objs.size f cdv)) →
      ∃ (t : TS) (E' : XK), PSs (cxOf CX0 P w K mg base Ns qual (defScope st) f cdv A outer s H E).nox (defBody st) (tSeq (tAsg (tCall (spOpen K) [] E' (tCons (tVar 0) tNil)) (gName 1)) t) ∧ EvS t m) :
    FnOk P w K mg base CX0 (k + 1) f fd ["script"] (spLaw K) := by
  refine F.ok S (fun vs H Q E h => ?_) fun cdv A outer s H vs Q E hr h => ?_
  · obtain ⟨sa, ns, rfl, _⟩ := h
    rfl
  · obtain ⟨sa, ns, rfl, hS, hl, hT, hnd, q⟩ := h
    obtain ⟨t, E', h1, h2⟩ := hb cdv A outer s H E hr
    refine ⟨_, h1, ?_⟩
    have e : L2.start Ns [.ref sa] = some (.ref sa) :: none :: List.replicate N none := by
      unfold L2.start
      rw [hn]
      rfl
    rw [e]
    exact read_law h2 hok hS hl hT hnd q E'
end
theorem walk_law {l : PySem.W.OpenLaw} {k : Nat} {q : Program} {loose : List Str} {XP : (Str → Option Value) → Heap → Prop} {YP : World → Heap → Prop} {d : DefRec} {K : Params → PySem.W.Frag} (hT : Tb.T = []) (hn : l.most = some 63) (hdf : d.params.defaults = []) (hk : Room k callerA)
    (hY : ∀ (w : World) (h : Heap), YP w h → (K w.params).In h)
    (F : ∀ (w : World) (mg : Str → Option Value) (fa : Addr) (h : Heap), (K w.params).In h → h.Ns mainGlobals mg → mg d.name = some (.ref fa) →
      ∃ fd : FuncData, (∀ (s : Shared) (u : Value), BindsTo s fd ⟨[u], []⟩ [("script", u)]) ∧ ∀ base : Heap, (K w.params).In base → base.Ns mainGlobals mg → FnOk l.prog w (K w.params) mg base CX0 k fa fd ["script"] (spLaw (K w.params))) :
    PySem.W.WalkO q loose XP YP l.row.toRowW d [] (fun f vs => PySem.call f vs) :=
  L2.walk_of (n := 63) (k := k) (x := "script") (CX := fun _ => CX0) (sp := fun w => spLaw (K w.params)) hn (by decide) hdf hk hY F (fun _ _ a ns hl _ hS => ⟨a, ns, rfl, hS, hl, (by rw [hT]; intro p m; cases m), by rw [hT]; exact List.nodup_nil, fun _ => rfl⟩) fun _ _ _ _ _ z => z
end MM


namespace MM
open PySem PySem.Spec PyProof.Rows L2
variable [Tb]
/-! ### a def that calls itself -/
def recP (N n : Nat) (mk : (List PyData → Option PyData) → MS) : Nat → List PyData → Option PyData
  | 0 => fun _ => none
  | k + 1 => runP N n (mk (recP N n mk k))
def recS (N n : Nat) (mk : (Gn → List PyData → Option (PyData × Gn)) → MS) : Nat → Gn → List PyData → Option (PyData × Gn)
  | 0 => fun _ _ => none
  | k + 1 => runS N n (mk (recS N n mk k))
theorem recP_n {N n : Nat} {mk : (List PyData → Option PyData) → MS} : ∀ {k : Nat} (ds : List PyData) (d : PyData), recP N n mk k ds = some d → ds.length = n
  | 0, _, _, h => by cases h
  | _ + 1, _, _, h => runP_n h
theorem recS_n {N n : Nat} {mk : (Gn → List PyData → Option (PyData × Gn)) → MS} : ∀ {k : Nat} (g : Gn) (ds : List PyData) (d : PyData × Gn), recS N n mk k g ds = some d → ds.length = n
  | 0, _, _, _, h => by cases h
  | _ + 1, _, _, _, h => runS_n h
section
variable {P : Program} {w : World} {K : PySem.W.Frag} {mg : Str → Option Value} {base : Heap}
theorem fn_recP {x qual : Str} {st : Stmt} {f : Addr} {fd : FuncData} {Ns ps : List Str} {k0 n : Nat} {mk : (List PyData → Option PyData) → MS} (F : Fun K x qual st f fd) (S : FnScope Ns ps (defScope st)) (hn : ps.length = n)
    (hb : ∀ (k : Nat) (mf : List PyData → Option PyData), k0 ≤ k → FnOk P w K mg base CX0 k f fd ps (spP n mf) → (∀ ds d, mf ds = some d → ds.length = n) →
      ∀ (cdv : Value) (A : Around) (outer : List Env) (s : Shared) (H : Hp) (E : XK), Room k (A.deeper (envOfC qual (defScope st) s.heap.objs.size f cdv)) → PSx (cxOf CX0 P w K mg base Ns qual (defScope st) f cdv A outer s H E).nox (defBody st) (mk mf)) :
    ∀ fuel : Nat, FnOk P w K mg base CX0 (k0 + fuel + 1) f fd ps (spP n (recP Ns.length n mk fuel))
  | 0 => by
    refine F.ok S (fun vs H Q E h => ?_) fun cdv A outer s H vs Q E hr h => ?_
    · obtain ⟨_, _, _, _, _, _, _, h, _⟩ := h
      cases h
    · obtain ⟨_, _, _, _, _, _, _, h, _⟩ := h
      cases h
  | fuel + 1 => fn_p F S hn (hb (k0 + fuel + 1) _ (by omega) (fn_recP F S hn hb fuel) recP_n)
theorem fn_recS {x qual : Str} {st : Stmt} {f : Addr} {fd : FuncData} {Ns ps : List Str} {k0 n : Nat} {mk : (Gn → List PyData → Option (PyData × Gn)) → MS} (F : Fun K x qual st f fd) (S : FnScope Ns ps (defScope st)) (hn : ps.length = n + 1)
    (hb : ∀ (k : Nat) (mf : Gn → List PyData → Option (PyData × Gn)), k0 ≤ k → FnOk P w K mg base CX0 k f fd ps (spS n mf) → (∀ g ds d, mf g ds = some d → ds.length = n) →
      ∀ (cdv : Value) (A : Around) (outer : List Env) (s : Shared) (H : Hp) (E : XK), Room k (A.deeper (envOfC qual (defScope st) s.heap.objs.size f cdv)) → PSx (cxOf CX0 P w K mg base Ns qual (defScope st) f cdv A outer s H E).nox (defBody st) (mk mf)) :
    ∀ fuel : Nat, FnOk P w K mg base CX0 (k0 + fuel + 1) f fd ps (spS n (recS Ns.length n mk fuel))
  | 0 => by
    refine F.ok S (fun vs H Q E h => ?_) fun cdv A outer s H vs Q E hr h => ?_
    · obtain ⟨_, _, _, _, _, _, _, _, _, _, _, _, _, h, _⟩ := h
      cases h
    · obtain ⟨_, _, _, _, _, _, _, _, _, _, _, _, _, h, _⟩ := h
      cases h
  | fuel + 1 => fn_s F S hn (hb (k0 + fuel + 1) _ (by omega) (fn_recS F S hn hb fuel) recS_n)
end
end MM


namespace MM
open PySem PySem.Spec PyProof.Rows L2
variable [Tb]

/-! ### d.pop(k), keys tuples -/
def rPop1 : V → List V → Hp → VK → Prop := fun x xs H Q => ∃ (a : Addr) (kvs : List (List L2.Key × V)) (k : List L2.Key) (b : Addr) (v : V), x = .ref a ∧ xs = [.ref b] ∧ H a = some (.dT kvs) ∧ H b = some (.tup (k.map kV)) ∧ valV kvs k = some v ∧ Q v (upd H a (.dT (dropK kvs k)))
theorem kt_at {H : Hp} {k : List L2.Key} {v : V} : ∀ {kvs : List (List L2.Key × V)} {xs : List (List L2.Key × Addr × Value)}, KT H kvs xs → valV kvs k = some v → ∃ p, atKey xs k = some p ∧ RelV v p.2
  | _, _, .nil, h => by cases h
  | (k1, v1) :: kvs, (k2, b, u) :: xs, .cons h t, e => by
    obtain ⟨h1, h2, h3⟩ := h
    have h1 : k1 = k2 := h1
    subst h1
    unfold valV at e
    unfold atKey
    rw [List.find?_cons] at e ⊢
    by_cases c : k1 = k
    · simp only [c, decide_true] at e ⊢
      cases e
      exact ⟨(b, u), rfl, h3⟩
    · simp only [c, decide_false] at e ⊢
      exact kt_at t e
theorem kt_drop {H : Hp} {k : List L2.Key} : ∀ {kvs : List (List L2.Key × V)} {xs : List (List L2.Key × Addr × Value)}, KT H kvs xs → KT H (dropK kvs k) (withoutH xs k)
  | _, _, .nil => .nil
  | (k1, v1) :: kvs, (k2, b, u) :: xs, .cons h t => by
    obtain ⟨h1, h2, h3⟩ := h
    have h1 : k1 = k2 := h1
    subst h1
    have ih := kt_drop (k := k) t
    unfold dropK withoutH at *
    rw [List.filter_cons, List.filter_cons]
    by_cases c : k1 = k
    · simp only [c, ne_eq, not_true_eq_false, decide_false, if_neg (by decide : ¬ (false = true))]
      exact ih
    · simp only [c, ne_eq, not_false_eq_true, decide_true, if_true]
      exact .cons ⟨rfl, h2, h3⟩ ih
theorem mt_pop1 {X : Cx} (hu : X.A.units + 1 < cLine) : MtR X "dict.pop" rPop1 := by
  intro pins s σ H x xs v us Q I rx rxs h
  obtain ⟨a, kvs, k, b, u, rfl, rfl, ha, hb, hv, q⟩ := h
  cases rx
  obtain ⟨w1, rfl, r1⟩ := L2.vals1 rxs
  cases r1
  obtain ⟨hz, hm, xs', rel, dd⟩ := dt_of I.hok ha
  obtain ⟨p, hp, rv⟩ := kt_at rel hv
  have hl := Paired.length rel
  refine PySem.call_pop_heap (knd := tupleKind (mixKind X.prog X.w)) (more := []) (.inl rfl) (PySem.F.args_dict_pop_2 _ _) (by show X.A.units + 1 < cLine; exact hu) (key_of I.hok hb) hm dd hp (fun h' dd' sb => ?_) (by omega)
  obtain ⟨qo, es, ep, hq, h2, h3, h4, h5, h6⟩ := dd'
  have rel' := kt_drop (k := k) rel
  have hb' : b ≠ a := fun e => by
    rw [e, ha] at hb
    cases hb
  refine ⟨u, _, I.write (x := a) (e := a) (o := .dT (dropK kvs k)) (t' := _) (by rw [ha]; exact True.intro) (.inl rfl) (fun c q hc z => (sb.2 c hc).trans z) ⟨qo, hq⟩ ⟨Nat.le_trans (List.length_filter_le _ _) hz, hm, _, rel'.keeps fun c ys ec => ?_, qo, es, ep, hq, h2, h3, h4, h6⟩, rv, q⟩
  rw [upd_ne (show c ≠ a from fun z => by rw [z, ha] at ec; cases ec)]
  exact ec
def dropD {κ : Type} [DecidableEq κ] (kvs : List (κ × PyData)) (k : κ) : List (κ × PyData) := kvs.filter fun kv => decide (kv.1 ≠ k)
theorem KD.drop {κ : Type} [DecidableEq κ] {F : Hp} (k : κ) : ∀ {l : List (κ × PyData)} {m : List (κ × V)}, KD F l m → KD F (dropD l k) (dropK m k)
  | _, _, .nil => .nil
  | (k1, d1) :: l, (k2, v2) :: m, .cons h t => by
    obtain ⟨h1, h2⟩ := h
    have h1 : k1 = k2 := h1
    subst h1
    have ih := KD.drop k t
    unfold dropD dropK at *
    rw [List.filter_cons, List.filter_cons]
    by_cases c : k1 = k
    · simp only [c, ne_eq, not_true_eq_false, decide_false, if_neg (by decide : ¬ (false = true))]
      exact ih
    · simp only [c, ne_eq, not_false_eq_true, decide_true, if_true]
      exact .cons ⟨rfl, h2⟩ ih
def isDT (i : Nat) (Γ : Ga) : Option Unit := match Γ[i]? with
  | some (.dT _) => some ()
  | _ => none
def mDPop (i : Nat) (m : MX) : MX := fun Γ => (isDT i Γ).bind fun _ => (m Γ).bind fun r => match r.2[i]? with
  | some (.dT kvs) => (keyT r.1).bind fun k => (getD' kvs k).bind fun d => some (d, r.2.set i (.dT (dropD kvs k)))
  | _ => none
theorem evx_dpop {K : PySem.W.Frag} {i : Nat} {te : TE} {m : MX} (h : EvX te m) : EvX (tBM K "dict" rPop1 (tVar i) (tCons te tNil)) (mDPop i m) := by
  intro a c σ Γ R F H s d Γ' e Q q
  obtain ⟨_, e0, e⟩ := Option.bind_eq_some_iff.mp e
  obtain ⟨⟨d1, Γ1⟩, e1, e⟩ := Option.bind_eq_some_iff.mp e
  have e0 : ∃ kvs, Γ[i]? = some (.dT kvs) := by
    unfold isDT at e0
    split at e0
    · exact ⟨_, by assumption⟩
    · cases e0
  obtain ⟨kvs0, e0⟩ := e0
  obtain ⟨p, kws0, e2, hp0, _, _⟩ := s.get_dT e0
  dsimp only at e
  split at e
  · rename_i kvs g
    obtain ⟨k, e3, e⟩ := Option.bind_eq_some_iff.mp e
    obtain ⟨d2, e4, e⟩ := Option.bind_eq_some_iff.mp e
    cases e
    refine ⟨.ref p, e2, .inr (.inr (.inl ⟨rfl, .inr ⟨_, hp0⟩⟩)), h a c σ Γ R F H s _ _ e1 _ fun v F' H' x s' d' => ?_⟩
    obtain ⟨p', kws, e5, hp, ha, up⟩ := s'.get_dT g
    rw [e2] at e5
    cases e5
    obtain ⟨b, rfl, hb⟩ := keyT_da d' e3
    rcases ha.find k with ⟨d3, v3, g1, g2, g3⟩ | ⟨g1, _⟩
    · rw [e4] at g1
      cases g1
      exact ⟨p, kws, k, b, v3, rfl, rfl, hp, s'.ex _ _ hb, g2, q _ F' _ x (up _ _ (ha.drop k)) g3⟩
    · rw [e4] at g1
      cases g1
  · cases e
section
variable {X : Cx} {e : Expr} {m : MX} {pos : Pos}
theorem x_dpop (i : Nat) {x : Str} {p1 apos : Pos} (hu : X.A.units + 1 < cLine) (h : PX X e m) (hN : X.N[i]? = some x := by rfl) (hv : Vis X.env.scope x := by first | exact Or.inl rfl | exact Or.inr (Or.inl rfl) | exact Or.inr (Or.inr rfl)) (hd : (x == ("__debug__" : Str)) = false := by decide)
    (hcd : (x == ("__classdict__" : Str)) = false := by decide)
    (hbase : attributeBase (.Name x p1) "pop" X.env (eval (.Name x p1) X.env) = eval (.Name x p1) X.env := by rfl)
    (hfew : ((backTo pos (starEach [e] X.env)).all (fun x => !x.1) && (backToKw pos (keywordEach [] X.env)).all (fun x => x.1.isSome)
      && decide ([e].length + ([] : List Keyword).length + (if ([] : List Keyword).isEmpty then 0 else 1) < 30)) = true := by rfl)
    (hline : (apos.endLine == pos.line) = true := by rfl) (hs : starEach [e] X.env = [(false, eval e X.env)] := by rfl) : PX X (.Call (.Attribute (.Name x p1) "pop" apos) [e] [] pos) (mDPop i m) :=
  let ⟨_, p, q⟩ := h; ⟨_, pe_bm PySem.F.plainAttrs_dict PySem.F.slot_dict_pop PySem.F.type_dict_pop (mt_pop1 hu) (pe_var hN hv hd hcd) (pa_cons p pa_nil hs) hbase hfew hline hs rfl, evx_dpop q⟩
end
end MM


namespace MM
open PySem PySem.Spec PyProof.Rows L2
variable [Tb]

/-! ### list(d.values()), keys tuples -/
def rValT : V → List V → Hp → VK → Prop := fun x xs H Q => ∃ (a : Addr) (kvs : List (List L2.Key × V)), x = .ref a ∧ xs = [] ∧ H a = some (.dT kvs) ∧ ∀ p, H p = none → Q (.ref p) (upd H p (viewO "dict_values" p a))
theorem mt_valuesT {X : Cx} : MtR X "dict.values" rValT := by
  intro pins s σ H x xs v us Q I rx rxs h
  obtain ⟨a, kvs, rfl, rfl, ha, q⟩ := h
  cases rx
  cases rxs
  obtain ⟨hz, hm, xs', rel, dd⟩ := dt_of I.hok ha
  obtain ⟨o, es, ep, ho, hx, hdt, he, _, hn⟩ := dd
  refine call_meetsIn PySem.F.slot_dict_values ⟨o, ho, hx.1⟩ PySem.F.entry_dict_values (PySem.F.args_dict_values_1 _) (meets_dict_values_raw a hm) ⟨⟨es, ep, o, ho, hx, hdt⟩, ?_⟩
  have hf : H s.heap.objs.size = none := I.hok.fresh (Nat.le_refl _)
  refine ⟨.ref s.heap.objs.size, upd H s.heap.objs.size (viewO "dict_values" s.heap.objs.size a), I.laid (t' := s.toks) (fun b u e => Heap.get?_push_of_some _ e) (Nat.le_refl _) (viewO_ok (Heap.get?_push_size _ rfl)), rfl, q _ hf⟩
def rListV : List V → Hp → VK → Prop := fun xs H Q => ∃ (p a : Addr) (kvs : List (List L2.Key × V)), xs = [.ref p] ∧ H p = some (viewO "dict_values" p a) ∧ H a = some (.dT kvs) ∧ ∀ l, H l = none → Q (.ref l) (upd H l (.lst (kvs.map (·.2))))
theorem vals_kt {H : Hp} : ∀ {kvs : List (List L2.Key × V)} {xs : List (List L2.Key × Addr × Value)}, KT H kvs xs → Vals (kvs.map (·.2)) (xs.map fun x => x.2.2)
  | _, _, .nil => .nil
  | _, _, .cons h t => .cons h.2.2 (vals_kt t)
theorem call_listV {X : Cx} (hc : X.calm = true) : CallR X (.type "list") rListV := by
  intro pins s σ H xs us Q I r h
  obtain ⟨p, a, kvs, rfl, hp, ha, q⟩ := h
  obtain ⟨u, rfl, rx⟩ := vals1 r
  cases rx
  obtain ⟨hz, hsm, ks, rel, o, es, ep, ho, hx, hdt, he, _, hn⟩ := dt_of I.hok ha
  obtain ⟨hv, _, _⟩ := (show ObjOk X.prog X.w H s.heap p (viewO "dict_values" p a) from I.hok p _ hp)
  have l1 : es.size = ks.length := size_of_entries (knd := tupleKind (mixKind X.prog X.w)) he
  have l2 : kvs.length = ks.length := Paired.length rel
  refine PySem.W.kdl_call KdlSrc.rawValues (I.ok.hd hc) ⟨⟨_, hv, rfl, rfl⟩, o, ho, hx, hdt⟩ (by omega) fun h' tk acc' c' kp e it => ?_
  have ea : acc'.toList = ks.map fun x => x.2.2 := by
    have hl : acc'.toList.length = ks.length := by rw [Array.length_toList, it.1]; exact l1
    apply List.ext_getElem?
    intro j
    rw [List.getElem?_map]
    cases hj : acc'.toList[j]? with
    | none =>
      have h1 := List.getElem?_eq_none_iff.mp hj
      rw [List.getElem?_eq_none (by omega)]
      all_goals rfl
    | some v =>
      obtain ⟨hi, hv⟩ := it.2 j v (by rw [← Array.getElem?_toList]; exact hj)
      have qe := entry_at (knd := tupleKind (mixKind X.prog X.w)) he j
      rw [Array.getElem?_eq_getElem hi] at qe
      cases hb : ks[j]? with
      | none =>
        rw [hb] at qe
        cases qe
      | some b =>
        rw [hb] at qe
        have e2 : es[j] = _ := Option.some.inj qe
        rw [hv, e2]
        all_goals rfl
  have rv := vals_kt rel
  rw [← ea] at rv
  have hz' : (kvs.map (·.2)).length ≤ sizeLine := by rw [List.length_map]; exact hz
  refine ⟨.ref s.heap.objs.size, _, I.laid (t' := tk) (o := .lst (kvs.map (·.2))) kp (Nat.le_refl _) ?_, rfl, q _ (I.hok.fresh (Nat.le_refl _))⟩
  exact ⟨hz', acc'.toList, c', rv, by rw [Array.toArray_toList]; exact e⟩
def lValsT (i : Nat) : ML := fun Γ => match Γ[i]? with
  | some (.dT kvs) => some (kvs.map (·.2), Γ)
  | _ => none
theorem Wd0.junk {F H : Hp} {O : Own} {p : Addr} {o : HO} (h : Wd0 F O H) (n : H p = none) : Wd0 F O (upd H p o) := by
  refine ⟨h.ex.trans (Ex.new n), fun q m => ?_, h.nd, h.nt⟩
  obtain ⟨h1, h2⟩ := h.own q m
  rw [upd_ne (ne_of_none h1 n)]
  exact ⟨h1, h2⟩
theorem Sta.junk {a c : Addr} {F H : Hp} {σ : L2.St} {Γ : Ga} {R : Own} {p : Addr} {o : HO} (s : Sta a c σ Γ R F H) (h : H p = none) : Sta a c σ Γ R F (upd H p o) := by
  obtain ⟨O, r, w⟩ := s.st
  obtain ⟨tb, t, w0⟩ := w.st
  exact ⟨O, r, ⟨tb, t, w0.junk h⟩, w.nb, w.ok⟩
theorem KD.vals {κ : Type} {F : Hp} : ∀ {l : List (κ × PyData)} {m : List (κ × V)}, KD F l m → DaAll F (m.map (·.2)) (l.map (·.2))
  | _, _, .nil => .nil
  | _, _, .cons h t => .cons h.2 (KD.vals t)
theorem evl_valsT {K : PySem.W.Frag} {i : Nat} : EvL (tCB rListV (tCons (tBM0 K "dict" rValT (tVar i)) tNil)) (lValsT i) := by
  intro a c σ Γ R F H s d Γ' e Q q
  unfold lValsT at e
  split at e
  · rename_i kvs g
    cases e
    obtain ⟨p, kws, h1, h2, h3, up⟩ := s.get_dT g
    refine ⟨_, h1, .inr (.inr (.inl ⟨rfl, .inr ⟨_, h2⟩⟩)), p, kws, rfl, rfl, h2, fun v hv => ?_⟩
    have s1 := s.junk (o := viewO "dict_values" v p) hv
    have np : p ≠ v := fun z => by
      rw [z, hv] at h2
      cases h2
    refine ⟨v, p, kws, rfl, upd_same, by rw [upd_ne np]; exact h2, fun l hl => ?_⟩
    exact q l _ F _ (Ex.refl F) (s1.mine hl) h3.vals
  · cases e
section
variable {X : Cx} {pos : Pos}
theorem l_vals (i : Nat) {x : Str} {p p1 apos cpos : Pos} (hc : X.calm = true) (hg : Gl X "list") (hm : X.mg "list" = none) (hN : X.N[i]? = some x := by rfl) (hv : Vis X.env.scope x := by first | exact Or.inl rfl | exact Or.inr (Or.inl rfl) | exact Or.inr (Or.inr rfl)) (hd : (x == ("__debug__" : Str)) = false := by decide)
    (hcd : (x == ("__classdict__" : Str)) = false := by decide)
    (hbase : attributeBase (.Name x p1) "values" X.env (eval (.Name x p1) X.env) = eval (.Name x p1) X.env := by rfl) (hline : (apos.endLine == cpos.line) = true := by rfl)
    (he : starEach [.Call (.Attribute (.Name x p1) "values" apos) [] [] cpos] X.env = [(false, eval (.Call (.Attribute (.Name x p1) "values" apos) [] [] cpos) X.env)] := by rfl) :
    PL X (.Call (.Name "list" p) [.Call (.Attribute (.Name x p1) "values" apos) [] [] cpos] [] pos) (lValsT i) :=
  ⟨_, pe_callTy (call_listV hc) hg hm (by decide +kernel) (pa_cons (pe_bm0 PySem.F.plainAttrs_dict PySem.F.slot_dict_values PySem.F.type_dict_values mt_valuesT (pe_var hN hv hd hcd) hbase hline) pa_nil he) (by decide) (by decide) he rfl, evl_valsT⟩
end
end MM


namespace MM
open PySem PySem.Spec PyProof.Rows L2
variable [Tb]

/-! ### a comprehension over a dict of one's own, keys tuples -/
noncomputable def lLcD (i : Nat) (b : MB) (t : MT) (m : MX) (vs : List Nat) : ML := fun Γ => match Γ[i]? with
  | some (.dT kvs) => (fit kvs.length ()).bind fun _ => (compGo any_ b t m vs (kvs.map fun p => .tuple (p.1.map unkey)) (wpG (Γ.set i .no) vs)).bind fun r => match r.2[i]? with
    | some .no => some (r.1, r.2.set i (.dT kvs))
    | _ => none
  | _ => none
theorem Sta.out_dT {a c : Addr} {F H : Hp} {σ : L2.St} {Γ : Ga} {R : Own} (s : Sta a c σ Γ R F H) {i : Nat} {kvs : List (List L2.Key × PyData)} (e : Γ[i]? = some (.dT kvs)) :
    ∃ p kws, σ[i]? = some (some (.ref p)) ∧ KD F kvs kws ∧ Sta a c σ (Γ.set i .no) ((p, .dT kws) :: R) F H := by
  obtain ⟨O, r, w⟩ := s.st
  obtain ⟨x, o, O', e1, c1, p1, k1⟩ := r.at e
  cases c1 with
  | dT h =>
    rename_i p kws
    obtain ⟨O2, r2, p2⟩ := k1 (some (.ref p)) .no [] .no
    rw [set_self e1] at r2
    refine ⟨p, kws, e1, h, O2, r2, w.perm ?_⟩
    refine (p1.append_right R).trans ?_
    show ((p, HO.dT kws) :: (O' ++ R)).Perm _
    refine List.Perm.trans ?_ List.perm_middle.symm
    exact List.Perm.cons _ ((show (O').Perm O2 by simpa using p2.symm).append_right R)
theorem feeds_kt {P : Hp → Hp → Prop} {d : Addr} {o : Obj} {kws : List (List L2.Key × V)} (h : ∀ F2 H2, P F2 H2 → H2 d = some (.frz o (.dT kws))) : Feeds P (Itkt d o kws) (kws.map fun p => .tuple (p.1.map unkey)) := by
  intro F2 H2 w
  have hd := h F2 H2 w
  refine ⟨fun i x e => ?_, hd, by simp⟩
  rw [List.getElem?_map] at e
  cases hk : kws[i]? with
  | none => rw [hk] at e; cases e
  | some q =>
    rw [hk] at e
    cases e
    refine ⟨⟨hd, (List.getElem?_eq_some_iff.mp hk).1⟩, fun x H3 y => ?_⟩
    obtain ⟨y1, k, v, b, y2, y3, y4⟩ := y
    rw [hk] at y2
    cases y2
    subst y3
    exact .inr (.inr ⟨b, _, y4, y1, .tup upd_same (da_keys _ _)⟩)
theorem evl_lcD {i : Nat} {gs vs : List Nat} {g : TG} {b : MB} {tt : TT} {t : MT} {te : TE} {m : MX} (hsl : i ∉ vs) (hg : EvG g gs b) (hgs : ∀ j ∈ gs, j ∈ vs) (ht : EvT tt t) (he : EvX te m) :
    EvL (tLockE (tLc (iKeys (tVar i)) g tt te vs)) (lLcD i b t m vs) := by
  intro a c σ Γ R F H s res Γ' e Q q
  unfold lLcD at e
  split at e
  · rename_i kvs hk
    obtain ⟨_, e2, e⟩ := Option.bind_eq_some_iff.mp e
    obtain ⟨⟨res', Γ2⟩, e3, e⟩ := Option.bind_eq_some_iff.mp e
    dsimp only at e
    split at e
    · rename_i hno
      cases e
      obtain ⟨p, kws, h1, h3, s1⟩ := s.out_dT hk
      have hp := s1.at_own
      have hil : i < Γ.length := (List.getElem?_eq_some_iff.mp hk).1
      refine ⟨p, _, hp, trivial, fun od => ?_⟩
      have s2 : Sta a c σ (Γ.set i .no) ((p, .frz od (.dT kws)) :: R) F (upd H p (.frz od (.dT kws))) := by
        obtain ⟨O, r, w⟩ := s1.st
        exact ⟨O, r, ((w.perm List.perm_middle).put (by intro xs z; cases z)).perm List.perm_middle.symm⟩
      have ek : (kws.map fun p => PyData.tuple (p.1.map unkey)) = kvs.map fun p => .tuple (p.1.map unkey) := h3.keys (f := fun k => PyData.tuple (k.map unkey))
      refine lc_at (sl := [i]) (a := a) (c := c) (F := F) (R := (p, .frz od (.dT kws)) :: R) (by simpa using hsl) hg hgs ht he (by rw [List.length_map]; exact (fit_some e2).1) e3 (fun Rj hR => ?_) fun D vs' F' H' x s' ha => ?_
      · refine ⟨_, h1, p, od, rfl, .inr ⟨kws, upd_same, ?_⟩⟩
        refine hR _ (fun F2 H2 => H2 p = some (.frz od (.dT kws))) F _ (Ex.refl F) s2 ?_ fun σ2 Γ2 R2 F2 H2 x2 st hs _ hq => ?_
        · rw [← ek]
          exact feeds_kt fun _ _ w => w
        · obtain ⟨O, r, w⟩ := st.st
          exact (w.own _ (List.mem_append_right _ (hq _ (List.mem_cons_self ..)))).1
      · have s3 := s'.swap
        refine ⟨s3.at_own, ?_⟩
        have s4 : Sta a c σ Γ2 ((p, .dT kws) :: (D, .lst vs') :: R) F' (upd H' p (.dT kws)) := by
          obtain ⟨O, r, w⟩ := s3.st
          exact ⟨O, r, ((w.perm List.perm_middle).put (by intro xs z; cases z)).perm List.perm_middle.symm⟩
        have s5 := s4.set_dT (i := i) (List.getElem?_eq_some_iff.mp hno).1 (h3.mono x)
        rw [set_self h1] at s5
        exact q D vs' F' _ x s5 ha
    · cases e
  · cases e
theorem l_lcD (i : Nat) {X : Cx} {elt tg : Expr} {ifs : List Expr} {scope : Scope} {pos p1 : Pos} {x : Str} {gs : List Nat} {b : MB} {tq : MT} {m : MX} (own : List (Str × Nat)) (hc : X.calm = true) (hN : X.N.Nodup) (ok : BlkOk X.N X.env.scope scope own)
    (hg : ∀ (s : Shared) (H : Hp) (C : Addr) (cl : List (Str × Addr)) (fp : List Addr), PGx (X.blk s H scope (compEnvC scope cl C X.env) fp) tg gs b)
    (ht : ∀ (s : Shared) (H : Hp) (C : Addr) (cl : List (Str × Addr)) (fp : List Addr), PTsx (X.blk s H scope (compEnvC scope cl C X.env) fp) ifs tq)
    (he : ∀ (s : Shared) (H : Hp) (C : Addr) (cl : List (Str × Addr)) (fp : List Addr), PX (X.blk s H scope (compEnvC scope cl C X.env) fp) elt m)
    (hNi : X.N[i]? = some x := by rfl) (hv : Vis X.env.scope x := by first | exact Or.inl rfl | exact Or.inr (Or.inl rfl) | exact Or.inr (Or.inr rfl)) (hd : (x == ("__debug__" : Str)) = false := by decide) (hcd : (x == ("__classdict__" : Str)) = false := by decide)
    (hsl : i ∉ own.map (·.2) := by decide) (hgs : ∀ j ∈ gs, j ∈ own.map (·.2) := by decide) (hs : ∀ y, foldedSetIterable (.Name x p1) X.env y = pure y := by intro _; rfl) :
    PL X (.ListComp elt [⟨tg, .Name x p1, ifs, 0⟩] scope pos) (lLcD i b tq m (own.map (·.2))) :=
  ⟨_, pe_lock (pe_lc hc hN (pi_keys (pe_var hNi hv hd hcd)) ok (fun s H C cl fp => (hg s H C cl fp).c) ht (fun s H C cl fp => (he s H C cl fp).c) hs), evl_lcD hsl (evg_c1 gs b) hgs (evt_c1 tq) (evx_c1 m)⟩
end MM


namespace MM
open PySem PySem.Spec PyProof.Rows L2
variable [Tb]
/-! ### list(range(n)), tuple(range(n)) -/
theorem hu_n {k n : Nat} {A : Around} (hr : Room k A) (h : n ≤ 200 := by decide) : A.units + n < cLine := by
  have := hr.un
  omega
theorem hu_0 {k : Nat} {A : Around} (hr : Room k A) : A.units < cLine := by
  have := hr.un
  omega
def PRx (X : Cx) (e : Expr) (m : Ga → Option (Int × Int × Ga)) : Prop := ∃ t, PRg X e t ∧ ∀ a c σ Γ R F H, Sta a c σ Γ R F H → ∀ i j Γ', m Γ = some (i, j, Γ') → ∀ Q : Int → Int → Hp → Prop, (∀ F' H', Ex F F' → Sta a c σ Γ' R F' H' → Q i j H') → t σ H Q
def rg1 (m : MX) : Ga → Option (Int × Int × Ga) := fun Γ => (m Γ).bind fun r => match r.1 with
  | .int j => some (0, j, r.2)
  | _ => none
def rg2 (m n : MX) : Ga → Option (Int × Int × Ga) := fun Γ => (m Γ).bind fun r => (n r.2).bind fun t => match r.1, t.1 with
  | .int i, .int j => some (i, j, t.2)
  | _, _ => none
def lRg (m : Ga → Option (Int × Int × Ga)) : ML := fun Γ => (m Γ).bind fun r => if (-(2 ^ 62) ≤ r.1 ∧ r.1 < 2 ^ 62) ∧ (-(2 ^ 62) ≤ r.2.1 ∧ r.2.1 < 2 ^ 62) ∧ (r.2.1 - r.1).toNat ≤ lim then some (intsD r.1 (r.2.1 - r.1).toNat, r.2.2) else none
def mRgT (m : Ga → Option (Int × Int × Ga)) : MX := fun Γ => (lRg m Γ).map fun r => (.tuple r.1, r.2)
theorem da_rg {F : Hp} (i : Int) (n : Nat) : DaAll F ((List.range n).map fun k : Nat => V.int (i + (k : Int))) (intsD i n) := by
  unfold intsD
  generalize List.range n = l
  induction l with
  | nil => exact .nil
  | cons k r ih => exact .cons (.int _) ih
theorem lRg_some {m : Ga → Option (Int × Int × Ga)} {Γ Γ' : Ga} {ds : List PyData} (e : lRg m Γ = some (ds, Γ')) : ∃ i j, m Γ = some (i, j, Γ') ∧ RgOk i j ∧ ds = intsD i (j - i).toNat := by
  obtain ⟨⟨i, j, Γ1⟩, e1, e⟩ := Option.bind_eq_some_iff.mp e
  dsimp only at e
  split at e
  · rename_i z
    cases e
    exact ⟨i, j, e1, ⟨z.1.1, z.1.2, z.2.1.1, z.2.1.2, Nat.le_trans z.2.2 (by unfold lim; decide)⟩, rfl⟩
  · cases e
section
variable {X : Cx} {e e1 : Expr} {m n : MX} {g : Ga → Option (Int × Int × Ga)} {pos : Pos}
theorem rg_1 (hg : Gl X "range") (hm : X.mg "range" = none) (h : PX X e m) (hs : starEach [e] X.env = [(false, eval e X.env)] := by rfl) {p : Pos} : PRx X (.Call (.Name "range" p) [e] [] pos) (rg1 m) := by
  obtain ⟨t, h1, h2⟩ := h
  refine ⟨_, prg_1 hg hm h1 hs, ?_⟩
  intro a c σ Γ R F H s i j Γ' w Q q
  obtain ⟨⟨d, Γ1⟩, e1, w⟩ := Option.bind_eq_some_iff.mp w
  dsimp only at w
  split at w
  · cases w
    exact h2 a c σ Γ R F H s _ _ e1 _ fun v F' H' x s' d' => ⟨_, d'.int_inv, q F' H' x s'⟩
  · cases w
theorem rg_2 (hg : Gl X "range") (hm : X.mg "range" = none) (h : PX X e m) (h' : PX X e1 n) (hs : starEach [e, e1] X.env = (false, eval e X.env) :: starEach [e1] X.env := by rfl) (hs2 : starEach [e1] X.env = [(false, eval e1 X.env)] := by rfl) (hp : (backTo pos (starEach [e1] X.env)).any (·.1) = false := by rfl) {p : Pos} : PRx X (.Call (.Name "range" p) [e, e1] [] pos) (rg2 m n) := by
  obtain ⟨t, h1, h2⟩ := h
  obtain ⟨t', h1', h2'⟩ := h'
  refine ⟨_, prg_2 hg hm h1 h1' hs hs2 hp, ?_⟩
  intro a c σ Γ R F H s i j Γ' w Q q
  obtain ⟨⟨d, Γ1⟩, e1, w⟩ := Option.bind_eq_some_iff.mp w
  obtain ⟨⟨d2, Γ2⟩, e2, w⟩ := Option.bind_eq_some_iff.mp w
  dsimp only at w
  split at w
  · cases w
    refine h2 a c σ Γ R F H s _ _ e1 _ fun v F' H' x s' d' => h2' a c σ _ R F' H' s' _ _ e2 _ fun u F2 H2 x2 s2 d2 => ⟨_, _, d'.int_inv, d2.int_inv, q F2 H2 (x.trans x2) s2⟩
  · cases w
theorem l_listRg (hg : Gl X "list") (hm : X.mg "list" = none) (hc : X.calm = true) (h : PRx X e g) (hs : starEach [e] X.env = [(false, eval e X.env)] := by rfl) {p : Pos} : PL X (.Call (.Name "list" p) [e] [] pos) (lRg g) := by
  obtain ⟨t, h1, h2⟩ := h
  refine ⟨_, pe_listRg hc hg hm h1 hs, ?_⟩
  intro a c σ Γ R F H s ds Γ' w Q q
  obtain ⟨i, j, w1, w2, rfl⟩ := lRg_some w
  exact h2 a c σ Γ R F H s i j Γ' w1 _ fun F' H' x s' => ⟨w2, fun p hp => q p _ F' _ x (s'.mine hp) (da_rg _ _)⟩
theorem x_tupRg (hg : Gl X "tuple") (hm : X.mg "tuple" = none) (hc : X.calm = true) (h : PRx X e g) (hs : starEach [e] X.env = [(false, eval e X.env)] := by rfl) {p : Pos} : PX X (.Call (.Name "tuple" p) [e] [] pos) (mRgT g) := by
  obtain ⟨t, h1, h2⟩ := h
  refine ⟨_, pe_tupRg hc hg hm h1 hs, ?_⟩
  intro a c σ Γ R F H s d Γ' w Q q
  unfold mRgT at w
  obtain ⟨⟨ds, Γ1⟩, w1, w⟩ := Option.map_eq_some_iff.mp w
  cases w
  obtain ⟨i, j, w3, w2, rfl⟩ := lRg_some w1
  refine h2 a c σ Γ R F H s i j _ w3 _ fun F' H' x s' => ⟨w2, fun p hp => ?_⟩
  obtain ⟨s3, x3⟩ := s'.froz (o := .tup (rgV i j)) hp
  exact q _ _ _ (x.trans x3) s3 (.tup upd_same (da_rg _ _))
end
section
variable {X : Cx} {e : Expr} {m : MX} {pos : Pos}
theorem x_and1 (h : PX X e m) : PX X (.BoolOp .And [e] pos) m := let ⟨_, a, b⟩ := h; ⟨_, pe_one a, b⟩
theorem x_or1 (h : PX X e m) : PX X (.BoolOp .Or [e] pos) m := let ⟨_, a, b⟩ := h; ⟨_, pe_one a, b⟩
end
/-! ### y = [.. for ..] -/
section
variable {X : Cx} {y : Str} {py spos : Pos} {elt tg iter : Expr} {ifs : List Expr} {scope : Scope} {pos : Pos} {sl gs : List Nat} {mi : MI} {b : MB} {tq : MT} {m : MX}
theorem s_setLc (i : Nat) (own : List (Str × Nat)) (hc : X.calm = true) (hN : X.N.Nodup) (hi : PIx X tg iter sl mi) (ok : BlkOk X.N X.env.scope scope own)
    (hg : ∀ (s : Shared) (H : Hp) (C : Addr) (cl : List (Str × Addr)) (fp : List Addr), PGx (X.blk s H scope (compEnvC scope cl C X.env) fp) tg gs b)
    (ht : ∀ (s : Shared) (H : Hp) (C : Addr) (cl : List (Str × Addr)) (fp : List Addr), PTsx (X.blk s H scope (compEnvC scope cl C X.env) fp) ifs tq)
    (he : ∀ (s : Shared) (H : Hp) (C : Addr) (cl : List (Str × Addr)) (fp : List Addr), PX (X.blk s H scope (compEnvC scope cl C X.env) fp) elt m)
    (hy : X.N[i]? = some y := by rfl) (hyl : X.env.scope.names.lookup y = some .local := by rfl) (hk : X.env.scope.kind = .function := by rfl) (hln : (py.line == pos.line) = true := by rfl)
    (hnm : (scope.names.any fun x => match x with | (n, k) => n == y && (k == .local || k == .cell)) = false := by decide +kernel)
    (hsl : ∀ j ∈ sl, j ∉ own.map (·.2) := by decide) (hgs : ∀ j ∈ gs, j ∈ own.map (·.2) := by decide) (hs : ∀ x, foldedSetIterable iter X.env x = pure x := by intro _; rfl) :
    PS1 X (.Assign [.Name y py] (.ListComp elt [⟨tg, iter, ifs, 0⟩] scope pos) spos) (sAsg (fzL (lLc mi b tq m (own.map (·.2)))) (bName i)) := by
  obtain ⟨wi, h1, h2⟩ := hi
  exact ⟨_, ps_setLc hc hN hy hyl (sw_true hk hyl hln hnm) h1 ok (fun s H C cl fp => (hg s H C cl fp).c) ht (fun s H C cl fp => (he s H C cl fp).c) hs, evs_asg (evl_lc h2 hsl (evg_c1 gs b) hgs (evt_c1 tq) (evx_c1 m)).x (evg_name i)⟩
theorem s_setLcL (i : Nat) (own : List (Str × Nat)) (hc : X.calm = true) (hN : X.N.Nodup) (hi : PIx X tg iter sl mi) (ok : BlkOk X.N X.env.scope scope own)
    (hg : ∀ (s : Shared) (H : Hp) (C : Addr) (cl : List (Str × Addr)) (fp : List Addr), PGx (X.blk s H scope (compEnvC scope cl C X.env) fp) tg gs b)
    (ht : ∀ (s : Shared) (H : Hp) (C : Addr) (cl : List (Str × Addr)) (fp : List Addr), PTsx (X.blk s H scope (compEnvC scope cl C X.env) fp) ifs tq)
    (he : ∀ (s : Shared) (H : Hp) (C : Addr) (cl : List (Str × Addr)) (fp : List Addr), PX (X.blk s H scope (compEnvC scope cl C X.env) fp) elt m)
    (hy : X.N[i]? = some y := by rfl) (hyl : X.env.scope.names.lookup y = some .local := by rfl) (hk : X.env.scope.kind = .function := by rfl) (hln : (py.line == pos.line) = true := by rfl)
    (hnm : (scope.names.any fun x => match x with | (n, k) => n == y && (k == .local || k == .cell)) = false := by decide +kernel)
    (hsl : ∀ j ∈ sl, j ∉ own.map (·.2) := by decide) (hgs : ∀ j ∈ gs, j ∈ own.map (·.2) := by decide) (hs : ∀ x, foldedSetIterable iter X.env x = pure x := by intro _; rfl) :
    PS1 X (.Assign [.Name y py] (.ListComp elt [⟨tg, iter, ifs, 0⟩] scope pos) spos) (sAsgL i (lLc mi b tq m (own.map (·.2)))) := by
  obtain ⟨wi, h1, h2⟩ := hi
  exact ⟨_, ps_setLc hc hN hy hyl (sw_true hk hyl hln hnm) h1 ok (fun s H C cl fp => (hg s H C cl fp).c) ht (fun s H C cl fp => (he s H C cl fp).c) hs, evs_asgL i (evl_lc h2 hsl (evg_c1 gs b) hgs (evt_c1 tq) (evx_c1 m))⟩
end
end MM


namespace MM
open PySem PySem.Spec PyProof.Rows L2
/-! ### key=lambda x: (len(x), x) -/
def lamB (x : Str) (p1 p2 p3 p4 pt : Pos) (kk : Nat) : Expr := .Tuple [.Call (.Name "len" p1) [.Name x p2] [] p3, .Name x p4] kk pt
structure LamP (x : Str) (scope : Scope) (params : Arguments) : Prop where
  kind : scope.kind = .function
  co : scope.isCoroutine = false
  gen : scope.isGenerator = false
  nc : ∀ y ∈ scope.names, y.2 ≠ .cell
  nf : ∀ y ∈ scope.names, y.2 ≠ .free
  lx : scope.names.lookup x = some .local
  ll : scope.names.lookup ("len" : Str) = some .globalImplicit
  bind : ∀ (q : Str) (b : Expr) (pm cv ctv v : Value), bindArgs (PySem.W.kla_fn "<lambda>" q params b scope [] pm cv ctv) ⟨[v], []⟩ = pure [(x, v)]
  dx : (x == ("__debug__" : Str)) = false
section
variable {prog : Program} {w : World}
theorem eval_name {A : Around} {E : Value → Shared → Prop} {s : Shared} {env : Env} {x : Str} {p : Pos} {v : Value} {Q : Value → Shared → Prop} {m : Str → Option Value} (hk : env.scope.kind = .function) (hn : env.kindOf x = some .local) (hm : s.heap.Ns env.locals m) (e : m x = some v) (hd : (x == ("__debug__" : Str)) = false) (q : Q v s) :
    wpAny (model prog w) A (eval (.Name x p) env) Q E s := wpAny_Name (wpAny_loadName_local hk hn hm e q) hd
theorem lam_key {A : Around} {s : Shared} {f c' : Addr} {qual : Str} {params : Arguments} {scope : Scope} {pm ctv : Value} {x : Str} {p1 p2 p3 p4 pt : Pos} {kk : Nat} {v : Value} {ns : List Int} {mg mb : Str → Option Value} (L : LamP x scope params)
    (hd : A.depth < recursionLimit) (hf : s.heap.get? f = some (PySem.W.kla_obj "<lambda>" qual params (lamB x p1 p2 p3 p4 pt kk) scope [] pm c' ctv)) (hc : s.heap.CodeRec (.ref c') qual)
    (hg : s.heap.Ns mainGlobals mg) (hl : mg "len" = none) (hb : s.heap.Ns builtinsNs mb) (hbl : mb "len" = some (.builtin "len")) (hnl : s.heap.NoLimit) (hv : TS.TupInts s.heap v ns) (hz : ns.length ≤ sizeLine) :
    wpAny (model prog w) A (call (.ref f) [v]) (PySem.W.KeyPure (.tuple [.int ns.length, .tuple (ns.map .int)]) s) (fun _ _ => False) s := by
  refine wpAny_call ?_
  refine PySem.W.kla_callFunE hd hf rfl L.co L.gen rfl hc ?_
  rw [L.bind]
  refine wpAny_pure ?_
  refine wpAny_newFunctionEnv (fun y m => L.nc y m) (fun y m => ?_) (fun h1 hns hsb => ?_) L.kind
  · rcases List.mem_cons.mp m with rfl | m
    · exact L.lx
    · cases m
  refine ⟨hnl.fresh _ hsb, ?_⟩
  have kp : ∀ b o, s.heap.get? b = some o → h1.get? b = some o := fun b o e => hsb.extBut b o (Nat.ne_of_lt (Heap.lt_size e)) (Heap.get?_push_of_some _ e)
  obtain ⟨a, its, rfl, ⟨ot, t1, t2, n, t3⟩, t4⟩ := hv
  refine PySem.W.kla_codeExpr ?_
  refine wpAny_Tuple_spliced ?_
  generalize henv : newEnv _ _ _ _ _ _ _ _ _ = env
  have e1 : env.scope = scope := by rw [← henv]; rfl
  have e2 : env.locals = s.heap.objs.size := by rw [← henv]; rfl
  have e3 : env.globals = mainGlobals := by rw [← henv]; rfl
  have e4 : env.builtins = builtinsNs := by rw [← henv]; rfl
  have hns' : h1.Ns env.locals fun y => List.lookup y [(x, Value.ref a)].reverse := by rw [e2]; exact hns
  have hlx : (fun y => List.lookup y [(x, Value.ref a)].reverse) x = some (Value.ref a) := by
    show List.lookup x [(x, Value.ref a)] = _
    simp
  have var : ∀ (B : Around) (E : Value → Shared → Prop) (p : Pos) (tk : Nat) (Q : Value → Shared → Prop), Q (.ref a) ⟨h1, s.gens, s.drawn, tk, s.os⟩ → wpAny (model prog w) B (eval (.Name x p) env) Q E ⟨h1, s.gens, s.drawn, tk, s.os⟩ := fun B E p tk Q q =>
    eval_name (by rw [e1]; exact L.kind) (by show List.lookup x env.scope.names = _; rw [e1]; exact L.lx) hns' hlx L.dx q
  have one : backTo pt (starEach [.Call (.Name "len" p1) [.Name x p2] [] p3, .Name x p4] env) = (false, eval (.Call (.Name "len" p1) [.Name x p2] [] p3) env) :: backTo pt (starEach [.Name x p4] env) := rfl
  have two : backTo pt (starEach [.Name x p4] env) = (false, eval (.Name x p4) env) :: [] := rfl
  rw [one, two]
  have hit : its.size = ns.length := by
    have : ∀ {vs : List Value} {ns : List Int}, IntsAre vs ns → vs.length = ns.length := by
      intro vs ns h
      induction h with
      | nil => rfl
      | cons _ _ _ ih => simp [ih]
    rw [← Array.length_toList]
    exact this t4
  refine Calls.spliced_cons ?_
  refine wpAny_Call_Name_kw (Calls.Name_function_global (by rw [e1]; exact L.kind) (by show List.lookup _ env.scope.names = _; rw [e1]; exact L.ll)
    (Calls.loadGlobal_builtin (by rw [e3]; exact hg.keeps kp) hl (by rw [e4]; exact hb.keeps kp) hbl ?_) (by decide))
  refine PyProof.Rows.callWith_builtin1 ?_ rfl rfl
  have three : backTo p3 (starEach [.Name x p2] env) = (false, eval (.Name x p2) env) :: [] := rfl
  rw [three]
  refine Calls.spliced_cons (var _ _ _ _ _ (Calls.spliced_nil ?_))
  refine len_tuple ⟨ot, kp _ _ t1, t2, n, t3⟩ ?_ ?_
  · rw [hit]
    have := line63
    omega
  refine Calls.spliced_cons (var _ _ _ _ _ (Calls.spliced_nil ?_))
  refine ⟨(show 2 ≤ sizeLine by decide), _, _, rfl, fun b o e => Heap.get?_push_of_some _ (kp b o e), ?_⟩
  have ra : ∀ {h : Heap} {vs : List Value} {ns : List Int}, IntsAre vs ns → ReadsAll h vs (ns.map .int) [] := by
    intro h vs ns r
    induction r with
    | nil => exact .nil
    | cons n t _ ih => exact .cons (.int n t) ih
  refine .tuple (Heap.get?_push_size h1 rfl) rfl rfl ?_
  refine .cons (as := []) (bs := []) ?_ (.cons (as := []) (bs := []) (.tuple (Heap.get?_push_of_some _ (kp _ _ t1)) t2 t3 (ra t4)) .nil)
  rw [← hit]
  exact .int _ _
end
end MM


namespace MM
open PySem PySem.Spec PyProof.Rows L2
variable [Tb]
theorem Wd.tbl {F H : Hp} {O : Own} (w : Wd F O H) : ∃ tb, tb.length = Tb.T.length ∧ (∀ x ∈ Tb.T.zip tb, H x.1.1 = some (.tbl x.2) ∧ F x.1.1 = none ∧ TriplesOk x.2.toList ∧ ∀ (pos : Pos) (cv : Value), codeAmong pos x.2.toList = some cv → ∃ c, cv = .ref c ∧ F c = some (LamX.CodeO c x.1.2)) ∧ (Tb.T.map (·.1)).Nodup ∧ ∀ q ∈ O, q.1 ∉ Tb.T.map (·.1) := by
  obtain ⟨tb, t, w0⟩ := w.st
  refine ⟨tb, t.1, fun x m => ?_, ?_, fun q m z => ?_⟩
  · have := w0.own (x.1.1, .tbl x.2) (List.mem_append_left _ (List.mem_map.mpr ⟨x, m, rfl⟩))
    exact ⟨this.1, this.2, (t.2 x m).1, (t.2 x m).2⟩
  · have := w0.nd
    rw [List.map_append, tb_addrs t.1] at this
    exact (List.nodup_append.mp this).1
  · have := w0.nd
    rw [List.map_append, tb_addrs t.1] at this
    exact (List.nodup_append.mp this).2.2 _ z _ (List.mem_map.mpr ⟨q, m, rfl⟩) rfl
theorem zip_mem {α β : Type} : ∀ {T : List α} {tb : List β}, tb.length = T.length → ∀ p ∈ T, ∃ y, (p, y) ∈ T.zip tb
  | p :: T, y :: tb, h, q, m => by
    rcases List.mem_cons.mp m with rfl | m
    · exact ⟨y, by rw [List.zip_cons_cons]; exact List.mem_cons_self ..⟩
    · obtain ⟨z, hz⟩ := zip_mem (T := T) (tb := tb) (by simpa using h) q m
      exact ⟨z, by rw [List.zip_cons_cons]; exact List.mem_cons_of_mem _ hz⟩
theorem Wd.tabs {F H : Hp} {O : Own} (w : Wd F O H) : LamX.Tabs Tb.T H := by
  obtain ⟨tb, h1, h2, _⟩ := w.tbl
  intro p m
  obtain ⟨ps, hp⟩ := zip_mem h1 p m
  obtain ⟨e1, _, e2, e3⟩ := h2 _ hp
  exact ⟨ps, e1, e2, fun pos cv z => let ⟨c, a, b⟩ := e3 pos cv z; ⟨c, a, w.ex _ _ b⟩⟩
open Classical in
noncomputable def lamF (F H2 : Hp) : Hp := fun b => match F b with
  | some o => some o
  | none => if ∃ c s, H2 b = some (LamX.CodeO c s) then H2 b else none
theorem Wd.lam {F H H2 : Hp} {O : Own} (w : Wd F O H) (x : LamX.ExtN H H2) (t : LamX.Tabs Tb.T H2) : Ex F (lamF F H2) ∧ Wd (lamF F H2) O H2 := by
  obtain ⟨tb, h1, h2, hnd, hno⟩ := w.tbl
  obtain ⟨tb2, g1, g2⟩ := tabs_list Tb.T t
  have up : ∀ b o, F b = some o → lamF F H2 b = some o := fun b o e => by
    unfold lamF
    rw [e]
  have upH : ∀ b o, F b = some o → H2 b = some o := fun b o e => x b o (w.ex b o e) fun ps z => w.nb b ps (by rw [e, z])
  have cd : ∀ b c s, H2 b = some (LamX.CodeO c s) → lamF F H2 b = some (LamX.CodeO c s) := fun b c s e => by
    cases hF : F b with
    | some o =>
      have := upH b o hF
      rw [e] at this
      rw [up b o hF, ← this]
    | none =>
      unfold lamF
      rw [hF]
      dsimp only
      rw [if_pos ⟨c, s, e⟩, e]
  have dn : ∀ b o, lamF F H2 b = some o → F b = some o ∨ (F b = none ∧ H2 b = some o ∧ ∃ c s, o = LamX.CodeO c s) := fun b o e => by
    cases hF : F b with
    | some o' =>
      rw [up b o' hF] at e
      exact .inl e
    | none =>
      refine .inr ⟨rfl, ?_⟩
      unfold lamF at e
      rw [hF] at e
      dsimp only at e
      split at e
      · rename_i z
        obtain ⟨c, s, z⟩ := z
        refine ⟨e, c, s, ?_⟩
        rw [z] at e
        exact (Option.some.inj e).symm
      · cases e
  have tin : ∀ q ∈ tbO tb2, ∃ y ∈ Tb.T.zip tb2, q = (y.1.1, .tbl y.2) := fun q m => by
    obtain ⟨y, m1, e⟩ := List.mem_map.mp m
    exact ⟨y, m1, e.symm⟩
  refine ⟨up, ⟨tb2, ⟨g1, fun y m => ⟨(g2 y m).2.1, fun pos cv z => ?_⟩⟩, fun b o e => ?_, fun q m => ?_, ?_, fun q m => ?_⟩, fun b ps e => ?_, w.ok⟩
  · obtain ⟨c, e1, e2⟩ := (g2 y m).2.2 pos cv z
    exact ⟨c, e1, cd _ _ _ e2⟩
  · rcases dn b o e with h | ⟨_, h, _⟩
    · exact upH b o h
    · exact h
  · rcases List.mem_append.mp m with m | m
    · obtain ⟨y, m2, rfl⟩ := tin q m
      refine ⟨(g2 y m2).1, ?_⟩
      cases e : lamF F H2 y.1.1 with
      | none => rfl
      | some o =>
        have hy : y.1 ∈ Tb.T := (List.of_mem_zip m2).1
        obtain ⟨ps, hp⟩ := zip_mem h1 _ hy
        rcases dn _ o e with h | ⟨_, h, c, s, z⟩
        · rw [(h2 _ hp).2.1] at h
          cases h
        · rw [(g2 y m2).1, z] at h
          have h := Option.some.inj h
          unfold LamX.CodeO at h
          cases h
    · have ho := w.ok q m
      have h3 := x _ _ (w.own q m).1 ho.1
      refine ⟨h3, ?_⟩
      cases e : lamF F H2 q.1 with
      | none => rfl
      | some o =>
        rcases dn _ o e with h | ⟨_, h, c, s, z⟩
        · rw [(w.own q m).2] at h
          cases h
        · rw [h3] at h
          exact absurd ((Option.some.inj h).trans z) (ho.2 c s)
  · rw [List.map_append, tb_addrs g1]
    refine List.nodup_append.mpr ⟨hnd, w.nd, fun b m b' m' e => ?_⟩
    subst e
    obtain ⟨q, mq, e⟩ := List.mem_map.mp m'
    exact hno q mq (by rw [e]; exact m)
  · rcases List.mem_append.mp m with m | m
    · obtain ⟨y, m2, rfl⟩ := tin q m
      intro xs e
      cases e
    · exact w.nt q m
  · rcases dn b _ e with h | ⟨_, h, c, s, z⟩
    · exact w.nb b ps h
    · unfold LamX.CodeO at z
      cases z
theorem Sta.lam {a c : Addr} {F H H2 : Hp} {σ : L2.St} {Γ : Ga} {R : Own} (s : Sta a c σ Γ R F H) (x : LamX.ExtN H H2) (t : LamX.Tabs Tb.T H2) : ∃ F2, Ex F F2 ∧ Sta a c σ Γ R F2 H2 := by
  obtain ⟨O, r, w⟩ := s.st
  obtain ⟨e, w2⟩ := w.lam x t
  exact ⟨_, e, O, r.mono e, w2⟩
theorem Sta.tabs {a c : Addr} {F H : Hp} {σ : L2.St} {Γ : Ga} {R : Own} (s : Sta a c σ Γ R F H) : LamX.Tabs Tb.T H := let ⟨_, _, w⟩ := s.st; w.tabs
end MM


namespace MM
open PySem PySem.Spec PyProof.Rows L2
/-! ### sorted(x, key=f), x a list or a tuple -/
section
variable {prog : Program} {w : World} {A : Around} {E : Value → Shared → Prop} {s : Shared}
theorem collect_sq {T : String} {l : Addr} {o : Obj} {vs : List Value} {n : Nat} {Q : List Value → Shared → Prop} (hT : T = "list" ∨ T = "tuple") (ho : s.heap.get? l = some o) (hc : o.cls = .type T) (hd : o.data = .seq vs.toArray n) (hL : vs.length ≤ sizeLine)
    (hQ : Q vs { s with heap := (s.heap.push (seqObj "list" #[] 0)).update s.heap.objs.size (Obj.mapSeq (· ++ vs.toArray)) }) : wpAny (model prog w) A (collect (.ref l)) Q E s := by
  have two := Heap.get?_update_self (Obj.mapSeq (· ++ vs.toArray)) (Heap.get?_push_size s.heap (o := seqObj "list" #[] 0) rfl) rfl
  have fin : wpAny (model prog w) A (match Value.ref s.heap.objs.size with
      | Value.ref z => do
        match (← load z).data with
          | Data.seq ys _ => pure ys.toList
          | _ => unsupported "internal:collect"
      | _ => unsupported "internal:collect") Q E { s with heap := (s.heap.push (seqObj "list" #[] 0)).update s.heap.objs.size (Obj.mapSeq (· ++ vs.toArray)) } := by
    show wpAny _ A (load s.heap.objs.size >>= _) _ _ _
    refine wpAny_bind (wpAny_load two (wpAny_pure ?_))
    have e : ((#[] : Array Value) ++ vs.toArray).toList = vs := by simp
    show Q ((#[] : Array Value) ++ vs.toArray).toList _
    exact e.symm ▸ hQ
  unfold collect; refine wpAny_bind (wpAny_runValue (codeAny_builtin F.entry_proto_collect ?_)); rw [Around.under_plainId F.plain_proto_collect _]
  show wpAny _ A.in1 (newList [] >>= fun z => again (.builtin "list.__iadd__" ⟨[z, .ref l], []⟩)) _ _ s
  refine wpAny_bind (wpAny_newObj_type (wpAny_pure ⟨plainId_quiet F.plain_list_iadd _, codeAny_builtin F.entry_list_iadd ?_⟩))
  rw [Around.under_plainId F.plain_list_iadd _]; show wpAny _ A.in1 (Builtin.List.listExtendWith (.ref s.heap.objs.size) (.ref l) (.ref s.heap.objs.size)) _ _ _
  refine wpAny_mono (wpAny_extend_seq (hsz := by rw [List.size_toArray]; exact hL) (A := A) (R := fun r s' => r = .ok (.ret (.ref s.heap.objs.size)) ∧ s' = { s with heap := (s.heap.push (seqObj "list" #[] 0)).update s.heap.objs.size (Obj.mapSeq (· ++ vs.toArray)) })
    (s := { s with heap := s.heap.push (seqObj "list" #[] 0) }) _ l _ 0 hT (Heap.get?_push_size _ rfl) (Heap.get?_push_of_some _ ho) hc hd ⟨rfl, rfl⟩) (fun z s' h => ?_) (fun e s' h => absurd h.1 (by simp))
  cases z with
  | done f =>
    obtain ⟨e, rfl⟩ := h
    cases e
    exact fin
  | again c' => exact ⟨h.1, codeAny_mono h.2 fun r s2 hr => by obtain ⟨rfl, rfl⟩ := hr; exact fin⟩
variable {β : Type} {vs : List Value} {bs : List β} {R : Value → β → Prop}
theorem sorted_any {T : String} {l : Addr} {o : Obj} {n : Nat} {f : Value} {kw : List (Str × Value)} {Q : Value → Shared → Prop} (k : β → PyData) (hT : T = "list" ∨ T = "tuple") (ho : s.heap.get? l = some o) (hc : o.cls = .type T) (hd : o.data = .seq vs.toArray n)
    (e : PySem.W.EachIs R vs bs) (hal : PySem.W.AllAlike (bs.map k)) (hk : PySem.W.Sortable (bs.map k)) (hL : bs.length ≤ sizeLine) (hu : ∀ x, x ∈ bs → A.units + 2 + (k x).depth < cLine)
    (ha1 : argsOk "sorted" ⟨[.ref l], kw⟩) (ha2 : ∀ x, argsOk "list.sort" ⟨[.ref x], kw⟩) (ht : ∀ x, Builtin.«list.sort» ⟨[.ref x], kw⟩ = ksk_tree x f false)
    (turn : ∀ (v : Value) (x : β), R v x → x ∈ bs → ∀ (h : Heap) (tk : Nat), (∀ b o, s.heap.get? b = some o → h.get? b = some o) → wpAny (model prog w) A.in1.in1 (call f [v]) (PySem.W.KeyPure (k x) { s with heap := h, toks := tk }) (fun _ _ => False) { s with heap := h, toks := tk })
    (h : ∀ out c h' tk, (∀ b o, s.heap.get? b = some o → h'.get? b = some o) → h'.get? (s.heap.objs.size + 1) = some (seqObj "list" (List.toArray out) c) → out.length = bs.length → PySem.W.EachIs R out (bs.mergeSort (PySem.W.dataLe false k)) → Q (.ref (s.heap.objs.size + 1)) { s with heap := h', toks := tk }) :
    wpAny (model prog w) A (call (.builtin "sorted") [.ref l] kw) Q E s := by
  have lv : vs.length ≤ sizeLine := by rw [e.length]; exact hL
  have up : ∀ {g : Heap}, PySem.W.KeepsBut (s.heap.objs.size + 1) (PySem.W.copyHeap s.heap vs) g → ∀ b o, s.heap.get? b = some o → g.get? b = some o := fun {g} kp b o q => kp b o (Nat.ne_of_lt (Nat.lt_succ_of_lt (Heap.lt_size q))) (PySem.W.copyHeap_old q)
  refine call_function_entry_kw kind_sorted plain_sorted entry_sorted ha1 ?_; unfold Builtin.«sorted»
  refine wpAny_bind (m := checkCount "sorted" 1 1 _) (wpAny_pure (wpAny_bind (collect_sq hT ho hc hd lv ?_)))
  refine wpAny_bind (wpAny_newList (s := { s with heap := (s.heap.push (seqObj "list" #[] 0)).update s.heap.objs.size (Obj.mapSeq (· ++ vs.toArray)) }) ?_ lv)
  have hsz : ((s.heap.push (seqObj "list" #[] 0)).update s.heap.objs.size (Obj.mapSeq (· ++ vs.toArray))).objs.size = s.heap.objs.size + 1 := (Heap.size_update ..).trans (size_push' ..)
  show wpAny _ _ _ _ _ { s with heap := PySem.W.copyHeap s.heap vs }; rw [hsz]
  refine wpAny_bind (wpAny_holding (wpAny_call_entry_kw slot_list_sort ⟨_, PySem.W.copyHeap_at s.heap vs, rfl⟩ entry_list_sort ?body (ha2 _)))
  case body =>
    show wpAny (model prog w) A.in1.in1 (Builtin.«list.sort» ⟨[.ref (s.heap.objs.size + 1)], kw⟩) _ _ _; rw [ht]
    refine PySem.W.keyH_tree (kz := bs.map k) (s := { s with heap := PySem.W.copyHeap s.heap vs }) (PySem.W.copyHeap_at s.heap vs) (by rw [List.length_map]; exact e.length.symm) lv hal hk (fun d m => by obtain ⟨x, mx, rfl⟩ := List.mem_map.mp m; exact hu x mx)
      (PySem.W.keyH_turns (s := { s with heap := PySem.W.copyHeap s.heap vs }) e fun v x hR hx g tk kp => turn v x hR hx g tk (up kp)) fun h' tk out c kp hD ko => ?_
    exact ⟨_, rfl, wpAny_pure ⟨_, rfl, h out c h' tk (up kp) hD ((ko.length (by rw [List.length_map]; exact e.length.symm)).trans e.length) (PySem.W.keyedOut_each k ko e)⟩⟩
end
def itemsD : PyData → Option (List PyData)
  | .list ds => some ds
  | .tuple ds => some ds
  | _ => none
end MM


namespace MM
open PySem PySem.Spec PyProof.Rows L2
variable [Tb]
def keyN (ns : List Int) : PyData := .tuple [.int ns.length, .tuple (ns.map .int)]
def sortN (nss : List (List Int)) : List (List Int) := nss.mergeSort (PySem.W.dataLe false keyN)
def tSK (K : PySem.W.Frag) (te : TE) : TE := fun σ H Q => te σ H fun xv H1 => LamX.Tabs Tb.T H1 ∧ ∀ H2, LamX.ExtN H1 H2 → LamX.Tabs Tb.T H2 → ∃ (a : Addr) (vs : List V) (nss : List (List Int)), xv = .ref a ∧ (SqL K H2 a vs ∨ SqT K H2 a vs) ∧ Paired (fun v ns => TupI K H2 v ns) vs nss ∧
  ∀ (p : Addr) (ys : List V), Paired (fun y ns => (y, ns) ∈ vs.zip nss) ys (sortN nss) → H2 p = none → Q (.ref p) (upd H2 p (.lst ys))
/-- the code object whose table holds the lambda's -/
structure LamT (X : Cx) : Prop where
  st : ∃ c P, LamX.TabB X.base X.mg c P ∧ X.env.code = .ref c ∧ (P, X.env.qual ++ "<lambda>") ∈ Tb.T ∧ ∀ p ∈ Tb.T, p.1 = P → p.2 = X.env.qual ++ "<lambda>"
theorem alike_ints : ∀ (n m : List Int), PySem.W.alikeAll (n.map .int) (m.map .int) = true
  | [], [] => rfl
  | [], _ :: _ => rfl
  | _ :: _, [] => rfl
  | a :: n, b :: m => by
    show (PySem.W.alike (.int a) (.int b) && PySem.W.alikeAll (n.map .int) (m.map .int)) = true
    rw [alike_ints n m]
    rfl
theorem alike_keys (n m : List Int) : PySem.W.alike (keyN n) (keyN m) = true := by
  show (PySem.W.alike (.int n.length) (.int m.length) && (PySem.W.alikeAll (n.map .int) (m.map .int) && PySem.W.alikeAll [] [])) = true
  rw [alike_ints]
  rfl
theorem depth_ints : ∀ ns : List Int, PyData.depthAll (ns.map .int) ≤ 1
  | [] => Nat.zero_le _
  | n :: r => by
    have := depth_ints r
    show max (PyData.depth (.int n)) (PyData.depthAll (r.map .int)) ≤ 1
    exact Nat.max_le.mpr ⟨by show 0 ≤ 1; omega, this⟩
theorem depth_key (ns : List Int) : (keyN ns).depth ≤ 4 := by
  have := depth_ints ns
  show max (PyData.depth (.int ns.length)) (max (PyData.depthAll (ns.map .int) + 1) 0) + 1 ≤ 4
  have e : PyData.depth (.int ns.length) = 0 := rfl
  rw [e]
  omega
theorem cloFrom_nil {cells : List (Str × Addr)} : ∀ {names : List (Str × NameKind)} {z : List (Str × Addr)}, (∀ y ∈ names, y.2 ≠ .free) → cloFrom cells names z = z
  | [], _, _ => rfl
  | (n, k) :: r, z, h => by
    unfold cloFrom
    rw [if_neg (by have := h (n, k) (List.mem_cons_self ..); simpa using this)]
    exact cloFrom_nil fun y m => h y (List.mem_cons_of_mem _ m)
def KeyR (h : Heap) (Z : List (V × List Int)) (v : Value) (ns : List Int) : Prop := (backV v, ns) ∈ Z ∧ TS.TupInts h v ns ∧ ns.length ≤ sizeLine
theorem each_key {X : Cx} {pins : List (Addr × Obj)} {σ : L2.St} {H : Hp} {s : Shared} (I : Inv X pins σ H s) {Z : List (V × List Int)} : ∀ {vs : List V} {its : List Value} {nss : List (List Int)}, Vals vs its → Paired (fun v ns => TupI X.K H v ns) vs nss → (∀ z ∈ vs.zip nss, z ∈ Z) → PySem.W.EachIs (KeyR s.heap Z) its nss
  | _, _, _, .nil, .nil, _ => .nil
  | v :: vs, u :: its, ns :: nss, .cons r rs, .cons t ts, hz => by
    obtain ⟨b, rfl, hb⟩ := t
    cases r
    obtain ⟨_, _, _, z⟩ := I.tuple hb
    refine .cons ⟨hz _ (by rw [List.zip_cons_cons]; exact List.mem_cons_self ..), tupI_raw I hb, by simpa using z⟩ (each_key I rs ts fun z m => hz z (by rw [List.zip_cons_cons]; exact List.mem_cons_of_mem _ m))
theorem each_out {h : Heap} {Z : List (V × List Int)} : ∀ {out : List Value} {bs : List (List Int)}, PySem.W.EachIs (KeyR h Z) out bs → Vals (out.map backV) out ∧ Paired (fun y ns => (y, ns) ∈ Z) (out.map backV) bs
  | _, _, .nil => ⟨.nil, .nil⟩
  | _, _, .cons r rs => by
    obtain ⟨h1, h2⟩ := each_out rs
    obtain ⟨z, ⟨a, xs, rfl, _⟩, _⟩ := r
    exact ⟨.cons rfl h1, .cons z h2⟩
theorem pe_sortK {X : Cx} {e : Expr} {te : TE} {x : Str} {params : Arguments} {scope : Scope} {p pos lpos kpos p1 p2 p3 p4 pt : Pos} {kk : Nat} (hu : X.A.units + 6 < cLine) (hdp : X.A.depth < recursionLimit) (LT : LamT X) (L : LamP x scope params) (hdef : defaultsOf params X.env = ([], []))
    (hcl : X.mg "len" = none) (hg : Gl X "sorted") (hm : X.mg "sorted" = none) (h : PE X e te) (he : starEach [e] X.env = [(false, eval e X.env)]) :
    PE X (.Call (.Name "sorted" p) [e] [⟨some "key", .Lambda params (lamB x p1 p2 p3 p4 pt kk) scope lpos, kpos⟩] pos) (tSK X.K te) := by
  obtain ⟨c, P, TB, hcode, hmT, huq⟩ := LT.st
  refine ⟨fun pins s σ H Q I hq => ?_⟩
  refine wpAny_Call_Name_kw (ld_blt I hg hm (u := .builtin "sorted") (by decide +kernel) (callWith_kw ?_ (by rw [he]; rfl) (by rw [he]; rfl) rfl rfl) (by decide) (by decide))
  have one : backTo pos (starEach [e] X.env) = (false, eval e X.env) :: [] := by rw [he]; rfl
  rw [one]
  refine Calls.spliced_cons (thn (h.run pins s σ H _ I hq) fun u s1 ⟨xv, H1, I1, r1, q1⟩ => Calls.spliced_nil ?_)
  obtain ⟨t1, q1⟩ := q1
  refine wpAny_evalAll_cons (wpAny_bind ?_)
  refine LamX.lam_make2 I1 TB hcode hmT huq t1 hdef (fun y m z => absurd z (L.nf y m)) fun f c' pm ctv H2 s2 I2 hx t2 hf hfn hfr hc => ?_
  refine wpAny_bind (wpAny_standAt (wpAny_pure (wpAny_evalAll_nil ?_)))
  obtain ⟨a, vs, nss, rfl, hs, hp, q2⟩ := q1 H2 hx t2
  rw [cloFrom_nil L.nf] at hf
  cases r1
  have hlen : vs.length = nss.length := Paired.length hp
  obtain ⟨T, oo, its, nn, hT, hoo, hco, hdo, rv, hz⟩ : ∃ (T : String) (oo : Obj) (its : List Value) (nn : Nat), (T = "list" ∨ T = "tuple") ∧ s2.heap.get? a = some oo ∧ oo.cls = .type T ∧ oo.data = .seq its.toArray nn ∧ Vals vs its ∧ vs.length ≤ sizeLine := by
    rcases hs with hs | hs
    · obtain ⟨its, rv, pl, hz⟩ := I2.list hs
      obtain ⟨oo, h1, h2, nn, h3⟩ := PlainL.isList pl
      exact ⟨"list", oo, its, nn, .inl rfl, h1, h2, h3, rv, hz⟩
    · obtain ⟨its, rv, ⟨oo, h1, h2, nn, h3⟩, hz⟩ := I2.tuple hs
      exact ⟨"tuple", oo, its, nn, .inr rfl, h1, h2, h3, rv, hz⟩
  obtain ⟨⟨oc, ov, ot, c1, c2, c3⟩, _, _⟩ := (show ObjOk X.prog X.w H2 s2.heap c' (LamX.CodeO c' _) from I2.hok c' _ hc)
  have kz : ([(some ("key" : Str))].filterMap id).zip [Value.ref f] = [(("key" : Str), Value.ref f)] := rfl
  refine sorted_any (R := KeyR s2.heap (vs.zip nss)) (bs := nss) (f := .ref f) keyN hT hoo hco hdo (each_key I2 rv hp fun _ m => m) ?_ ?_ (by omega) ?_ (PyProof.Rows.ksk_s1 _ _) (fun y => PyProof.Rows.ksk_l1 _ _) (fun y => PyProof.Rows.ksk_t1 f y) ?_ ?_
  · intro d md d' md'
    obtain ⟨n, _, rfl⟩ := List.mem_map.mp md
    obtain ⟨m, _, rfl⟩ := List.mem_map.mp md'
    exact alike_keys n m
  · refine .inl fun d md => ?_
    obtain ⟨n, _, rfl⟩ := List.mem_map.mp md
    exact ⟨_, _, rfl⟩
  · intro n _
    have := depth_key n
    omega
  · intro v ns hv mb h tk keep
    obtain ⟨hv1, ⟨b, xs, rfl, ⟨o, o1, o2, o3⟩, o4⟩, hv3⟩ := hv
    obtain ⟨mb', b1, b2⟩ := I2.mod.blt
    refine lam_key (s := ⟨h, s2.gens, s2.drawn, tk, s2.os⟩) (mg := X.mg) (mb := mb') L (by show X.A.depth < recursionLimit; omega) (keep _ _ hf) ⟨c', oc, ov, ot, rfl, keep _ _ c1, c2, c3⟩ ((I2.mod.glob.keeps I2.bk).keeps keep) hcl ((b1.keeps I2.bk).keeps keep) ((b2 _ (by decide)).trans (by decide +kernel)) ?_ ⟨b, xs, rfl, ⟨o, keep _ _ o1, o2, o3⟩, o4⟩ hv3
    obtain ⟨mc, m1, m2⟩ := I2.nolimit
    exact ⟨mc, m1.keeps keep, m2⟩
  · intro out c0 h' tk keep hat hl each
    obtain ⟨e1, e2⟩ := each_out each
    refine ⟨.ref (s2.heap.objs.size + 1), _, I2.laid (t' := tk) (o := .lst (out.map backV)) keep (Nat.le_succ _) ⟨?_, out, c0, e1, hat⟩, rfl, q2 _ _ e2 (I2.hok.fresh (Nat.le_succ _))⟩
    rw [List.length_map]
    omega
/-! over plain data -/
def nssOf : List PyData → Option (List (List Int))
  | [] => some []
  | .tuple ds :: r => (intsOf ds).bind fun ns => (nssOf r).bind fun nss => some (ns :: nss)
  | _ => none
def tupN (ns : List Int) : PyData := .tuple (ns.map .int)
theorem nssOf_eq : ∀ {ds : List PyData} {nss : List (List Int)}, nssOf ds = some nss → ds = nss.map tupN
  | [], _, h => by
    cases h
    rfl
  | d :: r, nss, h => by
    cases d <;> first | (simp [nssOf] at h; done) | skip
    simp only [nssOf] at h
    obtain ⟨ns, e1, h⟩ := Option.bind_eq_some_iff.mp h
    obtain ⟨ms, e2, h⟩ := Option.bind_eq_some_iff.mp h
    cases h
    rw [List.map_cons, ← nssOf_eq e2, intsOf_eq e1]
    rfl
def fSortKey (d : PyData) : Option (List PyData) := (itemsD d).bind fun ds => (nssOf ds).bind fun nss => some ((sortN nss).map tupN)
theorem da_tupI {K : PySem.W.Frag} {F H : Hp} (x : Ex F H) : ∀ {nss : List (List Int)} {vs : List V}, DaAll F vs (nss.map tupN) → Paired (fun v ns => TupI K H v ns) vs nss ∧ ∀ z ∈ vs.zip nss, Da F z.1 (tupN z.2)
  | [], _, h => by
    cases h
    exact ⟨.nil, fun _ m => nomatch m⟩
  | ns :: nss, _, h => by
    cases h with
    | cons h t =>
      obtain ⟨h1, h2⟩ := da_tupI x t
      have h' := h
      cases h with
      | tup hp ha =>
        have e := da_ints ha
        subst e
        refine ⟨.cons ⟨_, rfl, .inl (.inl (x _ _ hp))⟩ h1, fun z m => ?_⟩
        rw [List.zip_cons_cons] at m
        rcases List.mem_cons.mp m with rfl | m
        · exact h'
        · exact h2 z m
theorem evl_sortK {K : PySem.W.Frag} {te : TE} {rr : MR} (h : EvR te rr) : EvL (tSK K te) (l1 fSortKey rr) := by
  intro a c σ Γ R F H s es Γ' e Q q
  obtain ⟨⟨w, Γ1⟩, e1, e⟩ := Option.bind_eq_some_iff.mp e
  obtain ⟨d, e2, e⟩ := Option.bind_eq_some_iff.mp e
  obtain ⟨ds, e3, e⟩ := Option.bind_eq_some_iff.mp e
  cases e
  refine h a c σ Γ R F H s w _ e1 _ fun v F1 H1 x1 s1 l => ⟨s1.tabs, fun H2 hx ht => ?_⟩
  obtain ⟨F2, x2, s2⟩ := s1.lam hx ht
  have l := l _ _ _ _ (Ex.refl _) s1 e2
  obtain ⟨ds', e4, e3⟩ := Option.bind_eq_some_iff.mp e3
  obtain ⟨nss, e5, e3⟩ := Option.bind_eq_some_iff.mp e3
  cases e3
  have e5 := nssOf_eq e5
  subst e5
  obtain ⟨p, vs, rfl, hp, ha⟩ : ∃ p vs, v = .ref p ∧ (SqL K H2 p vs ∨ SqT K H2 p vs) ∧ DaAll F1 vs (nss.map tupN) := by
    cases d <;> simp only [itemsD] at e4 <;> first | (cases e4; done) | skip
    · cases e4
      obtain ⟨p, vs, rfl, hp, ha⟩ := l
      exact ⟨p, vs, rfl, .inl (.inl (.inl (hx _ _ hp (by intro ps z; cases z)))), ha⟩
    · cases e4
      have l : Da F1 v (.tuple _) := l
      cases l with
      | tup hp ha => exact ⟨_, _, rfl, .inr (.inl (.inl (hx _ _ (s1.ex _ _ hp) (by intro ps z; cases z)))), ha⟩
  obtain ⟨h1, h2⟩ := da_tupI (K := K) s2.ex (ha.mono x2)
  refine ⟨p, vs, nss, rfl, hp, h1, fun b ys hy hb => ?_⟩
  refine q b ys F2 _ (x1.trans x2) (s2.mine hb) ?_
  clear q hb
  generalize sortN nss = bs at hy ⊢
  induction hy with
  | nil => exact .nil
  | cons y _ ih => exact .cons (h2 _ y) ih
theorem l_sortK {X : Cx} {e : Expr} {rr : MR} {x : Str} {params : Arguments} {scope : Scope} {p pos lpos kpos p1 p2 p3 p4 pt : Pos} {kk k : Nat} (hr : Room k X.A) (LT : LamT X) (L : LamP x scope params)
    (hcl : X.mg "len" = none) (hg : Gl X "sorted") (hm : X.mg "sorted" = none) (h : PR X e rr) (hdef : defaultsOf params X.env = ([], []) := by rfl) (he : starEach [e] X.env = [(false, eval e X.env)] := by rfl) :
    PL X (.Call (.Name "sorted" p) [e] [⟨some "key", .Lambda params (lamB x p1 p2 p3 p4 pt kk) scope lpos, kpos⟩] pos) (l1 fSortKey rr) :=
  let ⟨_, a, b⟩ := h; ⟨_, pe_sortK (hu_n hr) (by have := hr.dp; omega) LT L hdef hcl hg hm a he, evl_sortK b⟩
end MM


namespace MM
open PySem PySem.Spec PyProof.Rows L2
variable [Tb]
/-- the def's code object has a table of its own, for the lambdas of this name -/
structure LamC (base : Heap) (mg : Str → Option Value) (fd : FuncData) (q : Str) : Prop where
  st : ∃ c P, fd.code = .ref c ∧ LamX.TabB base mg c P ∧ (P, q) ∈ Tb.T ∧ ∀ p ∈ Tb.T, p.1 = P → p.2 = q
section
variable {P : Program} {w : World} {K : PySem.W.Frag} {mg : Str → Option Value} {base : Heap}
theorem fn_pL {x qual q : Str} {st : Stmt} {f : Addr} {fd : FuncData} {N ps : List Str} {k n : Nat} {m : MS} (F : Fun K x qual st f fd) (S : FnScope N ps (defScope st)) (hn : ps.length = n) (LC : LamC base mg fd q)
    (hq : ∀ (cdv : Value) (A : Around) (outer : List Env) (s : Shared) (H : Hp) (E : XK), (cxOf CX0 P w K mg base N qual (defScope st) f cdv A outer s H E).nox.env.qual ++ "<lambda>" = q)
    (hb : ∀ (cdv : Value) (A : Around) (outer : List Env) (s : Shared) (H : Hp) (E : XK), Room k (A.deeper (envOfC qual (defScope st) s.heap.objs.size f cdv)) → LamT (cxOf CX0 P w K mg base N qual (defScope st) f cdv A outer s H E).nox → PSx (cxOf CX0 P w K mg base N qual (defScope st) f cdv A outer s H E).nox (defBody st) m) :
    FnOk P w K mg base CX0 (k + 1) f fd ps (spP n (runP N.length n m)) := by
  obtain ⟨c, T, e1, e2, e3, e4⟩ := LC.st
  obtain ⟨oc, od, kV, doc, pm, an, cdv, ct, osl, rfl, lk, hcd⟩ := F.ex
  have e1 : cdv = .ref c := e1
  subst e1
  refine fn_of lk hcd S (fun vs H Q E h => h.1.trans hn.symm) fun A outer s H vs Q E hr h => ?_
  obtain ⟨t, h1, h2⟩ := hb (.ref c) A outer s H E hr ⟨c, T, e2, rfl, by rw [hq]; exact e3, by rw [hq]; exact e4⟩
  exact ⟨t, h1.nox, read_p h2 rfl h⟩
end
end MM


namespace MM
open PySem PySem.Spec PyProof.Rows L2
variable [Tb]
theorem codeHd_of {K : PySem.W.Frag} {h : Heap} {c P : Addr} {dd : Option Addr} {vs : Array Value} {sl : Array (Option Value)} {file : Str} {tf tg tt : Tok} {flags text : Int} {inF : Bool} (X : K.In h) (lc : K.lookup c = some ⟨.type "code", dd, .fields vs, sl⟩)
    (v1 : vs[11]? = some (.ref P)) (v2 : vs.getD 11 .none = .ref P) (v3 : vs.getD 18 .none = .str file tf) (v4 : vs.getD 7 .none = .int flags tg) (v5 : vs.getD 9 .none = .bool inF) (v6 : vs.getD 10 .none = .int text tt) (ne : c ≠ P) : PySem.W.CodeHd h c P :=
  ⟨_, vs, file, tf, flags, tg, inF, text, tt, X _ _ lc, rfl, rfl, v1, v2, v3, v4, v5, v6, ne⟩
theorem lawAt {l : PySem.W.OpenLaw} {w : World} {K : PySem.W.Frag} {mg : Str → Option Value} {fa : Addr} {h : Heap} {k : Nat} {fd : FuncData} {c P : Addr} {q : Str} (hT : Tb.T = [(P, q)]) (h1 : h.get? P = some (PySem.W.tabObj #[])) (h2 : K.lookup P = none) (h3 : PySem.W.CodeHd h c P)
    (hb : ∀ (s : Shared) (u : Value), BindsTo s fd ⟨[u], []⟩ [("script", u)])
    (hf : ∀ base : Heap, K.In base → base.Ns mainGlobals mg → LamX.TabB base mg c P → FnOk l.prog w K mg base CX0 k fa fd ["script"] (spLaw K)) : LamX.LawAtS l w K CX0 k 63 "script" mg fa h := by
  refine ⟨fd, [(c, P)], spLaw K, fun p m => ?_, fun p m => ?_, fun p m => ?_, hb, fun H a ns hl _ ht hS => ?_, fun base b1 b2 b3 => hf base b1 b2 (b3 _ (List.mem_cons_self ..))⟩
  · rw [List.mem_singleton.mp m]
    exact h1
  · rw [List.mem_singleton.mp m]
    exact h2
  · rw [List.mem_singleton.mp m]
    exact h3
  · refine ⟨a, ns, rfl, hS, hl, ?_, by rw [hT]; simp, fun _ => rfl⟩
    rw [hT]
    intro p m
    rw [List.mem_singleton.mp m]
    exact ⟨#[], ht _ (List.mem_cons_self ..), trivial, fun pos cv z => by cases z⟩
theorem walk_lawT {l : PySem.W.OpenLaw} {k : Nat} {q : Program} {loose : List Str} {XP : (Str → Option Value) → Heap → Prop} {YP : World → Heap → Prop} {d : DefRec} {K : Params → PySem.W.Frag} (hn : l.most = some 63) (hdf : d.params.defaults = []) (hk : Room k callerA)
    (hY : ∀ (w : World) (h : Heap), YP w h → (K w.params).In h)
    (F : ∀ (w : World) (mg : Str → Option Value) (fa : Addr) (h : Heap), YP w h → (K w.params).In h → h.Ns mainGlobals mg → mg d.name = some (.ref fa) → LamX.LawAtS l w (K w.params) CX0 k 63 "script" mg fa h) :
    PySem.W.WalkO q loose XP YP l.row.toRowW d [] (fun f vs => PySem.call f vs) :=
  LamX.walk_ofTs (n := 63) (k := k) (x := "script") (CX := fun _ => CX0) hn (by decide) hdf hk hY F fun _ _ _ _ _ z => z
end MM


namespace MM
open PySem PySem.Spec PyProof.Rows L2

/-! ### reckoning with mirrors -/
theorem compGo_pure {b : MB} {t : MT} {m : MX} {vs : List Nat} {Γ : Ga} (p : PyData → Bool) (f : PyData → PyData) :
    ∀ ds : List PyData, (∀ d ∈ ds, ∃ Γ1 Γ2, b d Γ = some Γ1 ∧ t Γ1 = some (p d, Γ2) ∧ (p d = false → wpG Γ2 vs = Γ) ∧ (p d = true → ∃ Γ3, m Γ2 = some (f d, Γ3) ∧ wpG Γ3 vs = Γ)) → compGo any_ b t m vs ds Γ = some ((ds.filter p).map f, Γ)
  | [], _ => by
    unfold compGo
    rw [if_pos (show any_ Γ from trivial)]
    rfl
  | d :: ds, h => by
    have ih := compGo_pure p f ds fun e m => h e (List.mem_cons_of_mem _ m)
    obtain ⟨Γ1, Γ2, h1, h2, h3, h4⟩ := h d (List.mem_cons_self ..)
    unfold compGo
    rw [if_pos (show any_ Γ from trivial), h1]
    simp only [Option.bind_some, h2]
    cases hp : p d with
    | true =>
      obtain ⟨Γ3, h5, h6⟩ := h4 hp
      simp only [if_true, h5, Option.bind_some, h6, ih, List.filter_cons, hp, List.map_cons]
    | false =>
      simp only [Bool.false_eq_true, if_false, h3 hp, ih, List.filter_cons, hp]
end MM


namespace MM
open PySem PySem.Spec PyProof.Rows L2
variable [Tb]
/-! ### while -/
def whileGo (t : MT) (m : MS) : Nat → Ga → Option (Fl × Ga)
  | 0, _ => none
  | k + 1, Γ => (t Γ).bind fun r => if r.1 = true then (m r.2).bind fun u => match u.1 with
    | .nx => whileGo t m k u.2
    | .ct => whileGo t m k u.2
    | .bk => some (.nx, u.2)
    | .rt d => some (.rt d, u.2) else some (.nx, r.2)
def sWhile (k : Nat) (t : MT) (m : MS) : MS := whileGo t m k
theorem evs_while {tc : TT} {ts : TS} {k : Nat} {t : MT} {m : MS} (ht : EvT tc t) (hb : EvS ts m) : EvS (tWhile tc ts) (sWhile k t m) := by
  intro a c σ Γ R F H s fl Γ' e D kk
  refine ⟨fun n σ H => ∃ Γi Fi, Ex F Fi ∧ Sta a c σ Γi R Fi H ∧ whileGo t m n Γi = some (fl, Γ'), ⟨k, Γ, F, Ex.refl F, s, e⟩, ?_⟩
  rintro n σ2 H2 ⟨Γi, Fi, xi, si, ei⟩
  have kk := kk.mono xi
  cases n with
  | zero => cases ei
  | succ n =>
    unfold whileGo at ei
    obtain ⟨⟨b, Γ2⟩, e1, ei⟩ := Option.bind_eq_some_iff.mp ei
    refine ht a c σ2 Γi R Fi H2 si b Γ2 e1 _ fun F3 H3 x3 s3 => ?_
    cases b with
    | true =>
      have ei : ((m Γ2).bind fun u => match u.1 with
        | .nx => whileGo t m n u.2
        | .ct => whileGo t m n u.2
        | .bk => some (.nx, u.2)
        | .rt d => some (.rt d, u.2)) = some (fl, Γ') := ei
      obtain ⟨⟨f2, Γ3⟩, e2, ei⟩ := Option.bind_eq_some_iff.mp ei
      refine iteT ⟨fun σ' H' => ∃ Γi Fi, Ex F Fi ∧ Sta a c σ' Γi R Fi H' ∧ whileGo t m n Γi = some (fl, Γ'), fun σ' H' w => ⟨n, Nat.lt_succ_self n, w⟩, ?_⟩
      refine hb a c σ2 Γ2 R F3 H3 s3 f2 Γ3 e2 _ ?_
      cases f2 with
      | nx => exact fun σ' F' H' x' s' => ⟨Γ3, F', (xi.trans x3).trans x', s', ei⟩
      | ct => exact fun σ' F' H' x' s' => ⟨Γ3, F', (xi.trans x3).trans x', s', ei⟩
      | bk =>
        cases ei
        exact kk.mono x3
      | rt d =>
        cases ei
        exact kk.mono x3
    | false =>
      have ei : some (Fl.nx, Γ2) = some (fl, Γ') := ei
      cases ei
      exact iteF (kk σ2 F3 H3 x3 s3)
section
variable {X : Cx} {c : Expr} {body : List Stmt} {pos : Pos} {t : MT} {m : MS}
theorem s_while (hp : PassesOwn (model X.prog X.w) X.A X.env X.xe) (k : Nat) (ht : PTx X c t) (hb : PSx X body m) : PS1 X (.While c body [] pos) (sWhile k t m) := let ⟨_, a, b⟩ := ht; let ⟨_, d, e⟩ := hb; ⟨_, ps_while hp a d, evs_while b e⟩
end
end MM


namespace MM
open PySem PySem.Spec PyProof.Rows L2
variable [Tb]
/-! ### l[::-1] -/
theorem DaAll.reverse {F : Hp} {vs : List V} {ds : List PyData} (h : DaAll F vs ds) : DaAll F vs.reverse ds.reverse := by
  have : ∀ {vs : List V} {ds : List PyData} {ws : List V} {es : List PyData}, DaAll F vs ds → DaAll F ws es → DaAll F (vs.reverseAux ws) (ds.reverseAux es) := by
    intro vs
    induction vs with
    | nil =>
      intro ds ws es h k
      cases h
      exact k
    | cons v vs ih =>
      intro ds ws es h k
      cases h with
      | cons h t =>
        rename_i d ds
        exact ih (ds := ds) (ws := v :: ws) (es := d :: es) t (.cons h k)
  exact this h .nil
def fRev : PyData → Option (List PyData)
  | .list ds => some ds.reverse
  | _ => none
theorem evl_rev {K : PySem.W.Frag} {te : TE} {rr : MR} (h : EvR te rr) : EvL (tRevL K te) (l1 fRev rr) := by
  intro a c σ Γ R F H s es Γ' e Q q
  obtain ⟨⟨w, Γ1⟩, e1, e⟩ := Option.bind_eq_some_iff.mp e
  obtain ⟨d, e2, e⟩ := Option.bind_eq_some_iff.mp e
  obtain ⟨ds, e3, e⟩ := Option.bind_eq_some_iff.mp e
  cases e
  refine h a c σ Γ R F H s w _ e1 _ fun v F1 H1 x1 s1 l => ?_
  have l := l _ _ _ _ (Ex.refl _) s1 e2
  unfold fRev at e3
  split at e3
  · cases e3
    obtain ⟨p, vs, rfl, hp, ha⟩ := l
    exact ⟨p, vs, rfl, .inl (.inl hp), fun b hb => q b _ F1 _ x1 (s1.mine hb) ha.reverse⟩
  · cases e3
/-! ### (x, ..) * n, [x, ..] * n -/
theorem DaAll.rep {F : Hp} {vs : List V} {ds : List PyData} (h : DaAll F vs ds) : ∀ n : Nat, DaAll F (List.replicate n vs).flatten (List.replicate n ds).flatten
  | 0 => .nil
  | n + 1 => by
    rw [List.replicate_succ, List.replicate_succ, List.flatten_cons, List.flatten_cons]
    exact h.append (DaAll.rep h n)
def fRepT : PyData → PyData → Option PyData
  | .tuple (d :: ds), .int k => if 2 ≤ k ∧ k ≤ 1000 ∧ (d :: ds).length ≤ 1000 then some (.tuple (List.replicate k.toNat (d :: ds)).flatten) else none
  | _, _ => none
theorem opd_repT {K : PySem.W.Frag} : OpD (rRepT K) fRepT := by
  intro a c σ Γ R F H s x y dx dy d h1 h2 e Q q
  unfold fRepT at e
  split at e
  · split at e
    · rename_i z
      cases e
      cases h1 with
      | tup p1 a1 =>
        have ha := a1
        cases a1 with
        | cons h t =>
          rw [h2.int_inv]
          refine ⟨_, _, _, rfl, rfl, .inl (.inl (s.ex _ _ p1)), by simp, z.1, z.2.1, by rw [ha.length]; exact z.2.2, fun p hp => ?_⟩
          obtain ⟨s2, x2⟩ := s.froz (o := .tup _) hp
          exact q _ _ _ x2 s2 (.tup upd_same ((ha.rep _).mono x2))
    · cases e
  · cases e
section
variable {X : Cx} {e e1 e2 : Expr} {rr : MR} {m n : MX} {pos p1 p2 p3 : Pos} {k : Nat}
theorem l_rev (h : PR X e rr) : PL X (.Subscript e (.Slice none none (some (.UnaryOp .USub (.Constant (.int 1) k p1) p2)) p3) pos) (l1 fRev rr) := let ⟨_, a, b⟩ := h; ⟨_, pe_revL a, evl_rev b⟩
theorem x_repT (h1 : PX X e1 m) (h2 : PX X e2 n) : PX X (.BinOp e1 .Mult e2 pos) (mOp fRepT m n) := x_op op_repT opd_repT h1 h2
end
end MM


namespace MM
open PySem PySem.Spec PyProof.Rows L2
variable [Tb]
/-! ### min(l), max(l) of ints -/
def fMinL : PyData → Option PyData
  | .list ds => (intsOf ds).bind fun ns => ns.min?.map .int
  | _ => none
def fMaxL : PyData → Option PyData
  | .list ds => (intsOf ds).bind fun ns => ns.max?.map .int
  | _ => none
theorem callv_min {K : PySem.W.Frag} : CallV (rMin K) fMinL := by
  intro a c σ Γ R F H s v d e l h Q q
  unfold fMinL at h
  split at h
  · obtain ⟨ns, e1, h⟩ := Option.bind_eq_some_iff.mp h
    obtain ⟨m, e2, h⟩ := Option.map_eq_some_iff.mp h
    subst h
    have e1 := intsOf_eq e1
    subst e1
    obtain ⟨p, vs, rfl, hp, ha⟩ := l
    have b := da_ints ha
    subst b
    obtain ⟨h1, h2⟩ := List.min?_eq_some_iff.mp e2
    refine ⟨p, ns, rfl, .inl (.inl hp), List.length_pos_of_mem h1, fun m' m1 m2 => ?_⟩
    have : m' = m := Int.le_antisymm (m2 _ h1) (h2 _ m1)
    subst this
    exact q _ F H (Ex.refl F) s (.int _)
  · cases h
theorem callv_max {K : PySem.W.Frag} : CallV (rMax K) fMaxL := by
  intro a c σ Γ R F H s v d e l h Q q
  unfold fMaxL at h
  split at h
  · obtain ⟨ns, e1, h⟩ := Option.bind_eq_some_iff.mp h
    obtain ⟨m, e2, h⟩ := Option.map_eq_some_iff.mp h
    subst h
    have e1 := intsOf_eq e1
    subst e1
    obtain ⟨p, vs, rfl, hp, ha⟩ := l
    have b := da_ints ha
    subst b
    obtain ⟨h1, h2⟩ := List.max?_eq_some_iff.mp e2
    refine ⟨p, ns, rfl, .inl (.inl hp), List.length_pos_of_mem h1, fun m' m1 m2 => ?_⟩
    have : m' = m := Int.le_antisymm (h2 _ m1) (m2 _ h1)
    subst this
    exact q _ F H (Ex.refl F) s (.int _)
  · cases h
/-! ### l.index(x) -/
def idxD (ds : List PyData) (d : PyData) : Nat := ds.findIdx fun z => PyData.eqv z d
def isLst : PyData → Option Unit
  | .list _ => some ()
  | _ => none
def fIndexL : PyData → PyData → Option PyData
  | .list ds, d => if SeqAt.shaped (.list ds) = true ∧ SeqAt.shaped d = true ∧ idxD ds d < ds.length then some (.int (idxD ds d)) else none
  | _, _ => none
theorem isLst_some {x : PyData} {u : Unit} (h : isLst x = some u) : ∃ ds, x = .list ds := by
  cases x <;> first | (cases h; done) | exact ⟨_, rfl⟩
theorem fIndexL_some {x d r : PyData} (h : fIndexL x d = some r) : ∃ ds, x = .list ds ∧ (SeqAt.shaped (.list ds) = true ∧ SeqAt.shaped d = true ∧ idxD ds d < ds.length) ∧ r = .int (idxD ds d) := by
  unfold fIndexL at h
  split at h
  · split at h
    · rename_i z
      cases h
      exact ⟨_, rfl, z, rfl⟩
    · cases h
  · cases h
def mIndex (rr : MR) (m : MX) : MX := fun Γ => (rr Γ).bind fun r => (r.1 r.2).bind fun x0 => (isLst x0).bind fun _ => (m r.2).bind fun t => (r.1 t.2).bind fun x => (fIndexL x t.1).bind fun d => some (d, t.2)
theorem evx_index {K : PySem.W.Frag} {te tf : TE} {rr : MR} {m : MX} (h : EvR te rr) (h' : EvX tf m) : EvX (tBM K "list" (rIndexD K) te (tCons tf tNil)) (mIndex rr m) := by
  intro a c σ Γ R F H s d Γ' e Q q
  obtain ⟨⟨w, Γ1⟩, e1, e⟩ := Option.bind_eq_some_iff.mp e
  obtain ⟨x0, e2, e⟩ := Option.bind_eq_some_iff.mp e
  obtain ⟨_, e5, e⟩ := Option.bind_eq_some_iff.mp e
  obtain ⟨⟨d1, Γ2⟩, e3, e⟩ := Option.bind_eq_some_iff.mp e
  obtain ⟨x, e4, e⟩ := Option.bind_eq_some_iff.mp e
  obtain ⟨r, e6, e⟩ := Option.bind_eq_some_iff.mp e
  cases e
  obtain ⟨ds0, rfl⟩ := isLst_some e5
  obtain ⟨ds, rfl, z, rfl⟩ := fIndexL_some e6
  refine h a c σ Γ R F H s w _ e1 _ fun v F1 H1 x1 s1 l => ?_
  obtain ⟨p0, vs0, rfl, hp0, _⟩ := l _ _ _ _ (Ex.refl _) s1 e2
  refine ⟨.inl ⟨rfl, _, .inl (.inl hp0)⟩, h' a c σ Γ1 R F1 H1 s1 d1 _ e3 _ fun u F2 H2 x2 s2 d2 => ?_⟩
  obtain ⟨p, vs, ep, hp, ha⟩ := l _ _ _ _ x2 s2 e4
  cases ep
  refine ⟨p0, u, d1, ds, idxD ds d1, ds[idxD ds d1]'z.2.2, rfl, rfl, .lst (.inl (.inl hp)) (ha.dp s2.ex), d2.dp s2.ex, z.1, z.2.1, List.getElem?_eq_getElem z.2.2, ?_, fun k z' hk hz => ?_, q _ F2 H2 (x1.trans x2) s2 (.int _)⟩
  · exact List.findIdx_getElem (w := z.2.2)
  · have hl : k < ds.length := (List.getElem?_eq_some_iff.mp hz).1
    have := List.not_of_lt_findIdx (p := fun z => PyData.eqv z d1) (xs := ds) hk
    rw [List.getElem?_eq_getElem hl] at hz
    cases hz
    simpa using this
section
variable {X : Cx} {e e1 : Expr} {rr : MR} {m : MX} {pos : Pos} {k : Nat}
theorem x_minL (hg : Gl X "min") (hm : X.mg "min" = none) (hc : X.calm = true) (h : PR X e rr) (he : starEach [e] X.env = [(false, eval e X.env)] := by rfl) {p : Pos} : PX X (.Call (.Name "min" p) [e] [] pos) (m1 fMinL rr) :=
  let ⟨_, a, b⟩ := h; ⟨_, pe_callB (cr_min hc) hg hm (by decide +kernel) (pa_cons a pa_nil he) (by decide) (by decide) he rfl, evx_1 callv_min b⟩
theorem x_maxL (hg : Gl X "max") (hm : X.mg "max" = none) (hc : X.calm = true) (h : PR X e rr) (he : starEach [e] X.env = [(false, eval e X.env)] := by rfl) {p : Pos} : PX X (.Call (.Name "max" p) [e] [] pos) (m1 fMaxL rr) :=
  let ⟨_, a, b⟩ := h; ⟨_, pe_callB (cr_max hc) hg hm (by decide +kernel) (pa_cons a pa_nil he) (by decide) (by decide) he rfl, evx_1 callv_max b⟩
theorem x_index (hr : Room k X.A) {o : Expr} {apos : Pos} (h : PR X o rr) (h' : PX X e m)
    (hbase : attributeBase o "index" X.env (eval o X.env) = eval o X.env := by rfl)
    (hfew : ((backTo pos (starEach [e] X.env)).all (fun x => !x.1) && (backToKw pos (keywordEach [] X.env)).all (fun x => x.1.isSome)
      && decide ([e].length + ([] : List Keyword).length + (if ([] : List Keyword).isEmpty then 0 else 1) < 30)) = true := by rfl)
    (hline : (apos.endLine == pos.line) = true := by rfl) (hs : starEach [e] X.env = [(false, eval e X.env)] := by rfl) : PX X (.Call (.Attribute o "index" apos) [e] [] pos) (mIndex rr m) :=
  let ⟨_, p, q⟩ := h; let ⟨_, p', q'⟩ := h'; ⟨_, pe_bm PySem.F.plainAttrs_list PySem.F.slot_list_index PySem.F.type_list_index (mt_indexD (hu_n hr)) p (pa_cons p' pa_nil hs) hbase hfew hline hs rfl, evx_index q q'⟩
end
end MM


namespace MM
open PySem PySem.Spec PyProof.Rows L2
variable [Tb]

/-! ### a list of one's own, handed on for good -/
theorem Rep.frz {a c : Addr} {F : Hp} {σ : L2.St} {Γ : Ga} {O : Own} (h : Rep a c F σ Γ O) : ∀ {i : Nat} {ds : List PyData}, Γ[i]? = some (.lst ds) → ∃ p vs O', σ[i]? = some (some (.ref p)) ∧ DaAll F vs ds ∧ O.Perm ((p, .lst vs) :: O') ∧
    ∀ F', Ex F F' → Da F' (.ref p) (.list ds) → Rep a c F' σ (Γ.set i (.dat (.list ds))) O' := by
  induction h with
  | nil => intro i ds e; simp at e
  | @cons x k o σ Γ O hc hr ih =>
    intro i ds e
    cases i with
    | zero =>
      simp at e
      subst e
      cases hc with
      | lst hd =>
        rename_i p vs
        exact ⟨p, vs, O, rfl, hd, .refl _, fun F' x hp => by have := Rep.cons (RepC.dat (a := a) (c := c) hp) (hr.mono x); simpa using this⟩
    | succ i =>
      obtain ⟨p, vs, O', e1, e2, e3, e4⟩ := ih (i := i) (ds := ds) (by simpa using e)
      refine ⟨p, vs, o ++ O', by simpa using e1, e2, ?_, fun F' x hp => ?_⟩
      · exact (List.Perm.append_left o e3).trans List.perm_middle
      · exact .cons (hc.mono x) (e4 F' x hp)
def mFrz (i : Nat) : MX := fun Γ => match Γ[i]? with
  | some (.lst ds) => some (.list ds, Γ.set i (.dat (.list ds)))
  | _ => none
theorem evx_frz {i : Nat} : EvX (tVar i) (mFrz i) := by
  intro a c σ Γ R F H s d Γ' e Q q
  unfold mFrz at e
  split at e
  · rename_i ds k
    cases e
    obtain ⟨O, r, w⟩ := s.st
    obtain ⟨p, vs, O', e1, e2, e3, e4⟩ := r.frz k
    obtain ⟨w2, x2⟩ := (w.perm (e3.append_right R)).still
    have hd : Da (upd F p (.lst vs)) (.ref p) (.list ds) := .lst upd_same (e2.mono x2)
    exact ⟨.ref p, e1, q _ _ _ x2 ⟨O', e4 _ x2 hd, w2⟩ hd⟩
  · cases e
/-! ### what is true -/
def truD : PyData → Option Bool
  | .none => some false
  | .bool b => some b
  | .int i => some (i != 0)
  | .list ds => some (!ds.isEmpty)
  | .tuple ds => some (!ds.isEmpty)
  | _ => none
def tTru (rr : MR) : MT := fun Γ => (rr Γ).bind fun r => (r.1 r.2).bind fun d => (truD d).bind fun b => some (b, r.2)
theorem DaAll.emp {F : Hp} {vs : List V} {ds : List PyData} (h : DaAll F vs ds) : ds.isEmpty = vs.isEmpty := by cases h <;> rfl
theorem evt_tru {K : PySem.W.Frag} {te : TE} {rr : MR} (h : EvR te rr) : EvT (fun σ H Q => te σ H fun x H' => ∃ k, TruV K x H' k ∧ Q k H') (tTru rr) := by
  intro a c σ Γ R F H s b Γ' e Q q
  obtain ⟨⟨w, Γ1⟩, e1, e⟩ := Option.bind_eq_some_iff.mp e
  obtain ⟨d, e2, e⟩ := Option.bind_eq_some_iff.mp e
  obtain ⟨b', e3, e⟩ := Option.bind_eq_some_iff.mp e
  cases e
  refine h a c σ Γ R F H s w _ e1 _ fun v F1 H1 x1 s1 l => ?_
  have l := l _ _ _ _ (Ex.refl _) s1 e2
  refine ⟨b, ?_, q F1 H1 x1 s1⟩
  match d, e3, l with
  | .none, e3, l =>
    cases e3
    have l : Da F1 v .none := l
    cases l
    rfl
  | .bool i, e3, l =>
    cases e3
    have l : Da F1 v (.bool b) := l
    cases l
    rfl
  | .int i, e3, l =>
    cases e3
    have l : Da F1 v (.int i) := l
    cases l
    rfl
  | .list ds, e3, l =>
    cases e3
    obtain ⟨p, vs, rfl, hp, ha⟩ := l
    exact .inl ⟨vs, .inl (.inl hp), by rw [ha.emp]⟩
  | .tuple ds, e3, l =>
    cases e3
    have l : Da F1 v (.tuple ds) := l
    cases l with
    | tup hp ha => exact .inr (.inl ⟨_, .inl (.inl (s1.ex _ _ hp)), by rw [ha.emp]⟩)
/-! ### l.extend(m), m a new list -/
def mExt (i : Nat) (l : ML) : MX := fun Γ => (isL i Γ).bind fun _ => (l Γ).bind fun r => match r.2[i]? with
  | some (.lst ds) => (fit (ds.length + r.1.length) ()).bind fun _ => some (.none, r.2.set i (.lst (ds ++ r.1)))
  | _ => none
theorem Sta.loose {a c : Addr} {σ : L2.St} {Γ : Ga} {R : Own} {F H : Hp} {p : Addr} {o : HO} (h : Sta a c σ Γ ((p, o) :: R) F H) : Sta a c σ Γ R F H := by
  obtain ⟨O, r, w⟩ := h.st
  exact ⟨O, r, (w.perm List.perm_middle).tail⟩
theorem evx_ext {K : PySem.W.Frag} {i : Nat} {te : TE} {l : ML} (h : EvL te l) : EvX (tBM K "list" rExtend (tVar i) (tCons te tNil)) (mExt i l) := by
  intro a c σ Γ R F H s d Γ' e Q q
  obtain ⟨_, e0, e⟩ := Option.bind_eq_some_iff.mp e
  obtain ⟨⟨d1, Γ1⟩, e1, e⟩ := Option.bind_eq_some_iff.mp e
  obtain ⟨ds0, e0⟩ := isL_some e0
  obtain ⟨p, vs0, e2, hp0, _, _⟩ := s.get_lst e0
  dsimp only at e
  split at e
  · rename_i ds k
    obtain ⟨_, e3, e⟩ := Option.bind_eq_some_iff.mp e
    cases e
    have hl : ds.length + d1.length ≤ lim := (fit_some e3).1
    refine ⟨.ref p, e2, .inl ⟨rfl, _, .inl (.inl hp0)⟩, h a c σ Γ R F H s _ _ e1 _ fun b zs F' H' x s' d' => ?_⟩
    have hb := s'.at_own
    have s'' := s'.loose
    obtain ⟨p', vs, e4, hp, ha, up⟩ := s''.get_lst k
    rw [e2] at e4
    cases e4
    exact ⟨p, b, vs, zs, rfl, rfl, hp, hb, by rw [ha.length, d'.length]; exact lim_sz hl, q _ F' _ x (up _ _ (ha.append d')) .non⟩
  · cases e
/-! ### 1 << k, i & j -/
def fShl1 : PyData → PyData → Option PyData
  | .int i, .int j => if i = 1 ∧ 0 ≤ j ∧ j ≤ 1000 then some (.int (2 ^ j.toNat)) else none
  | _, _ => none
theorem opd_shl1 : OpD (fun x y H Q => ∃ k : Nat, x = .int 1 ∧ y = .int (k : Int) ∧ k ≤ 134217727 ∧ Q (.int (2 ^ k)) H) fShl1 := by
  intro a c σ Γ R F H s x y dx dy d h1 h2 e Q q
  unfold fShl1 at e
  split at e
  · rename_i i j
    split at e
    · rename_i z
      obtain ⟨rfl, z1, z2⟩ := z
      cases e
      refine ⟨j.toNat, h1.int_inv, by rw [h2.int_inv, Int.toNat_of_nonneg z1], by omega, q _ F H (Ex.refl F) s (.int _)⟩
    · cases e
  · cases e
def fBand := fInt fun i j => .int (Builtin.bitAnd i j)
theorem opd_band : OpD (rI0 fun i j => .int (Builtin.bitAnd i j)) fBand := opd_int fun _ _ _ => .int _
/-! ### list(d), d.pop(k), keys ints and texts -/
def lKeysK (i : Nat) : ML := fun Γ => match Γ[i]? with
  | some (.dK kvs) => some (kvs.map fun p => unkey p.1, Γ)
  | _ => none
theorem da_unkey {F : Hp} {κ : Type} : ∀ (kvs : List (L2.Key × κ)), DaAll F (kvs.map fun p => kV p.1) (kvs.map fun p => unkey p.1)
  | [] => .nil
  | (.inl i, _) :: r => .cons (.int i) (da_unkey r)
  | (.inr x, _) :: r => .cons (.str x) (da_unkey r)
theorem evl_keysK {i : Nat} : EvL (tCB rListD (tCons (tVar i) tNil)) (lKeysK i) := by
  intro a c σ Γ R F H s d Γ' e Q q
  unfold lKeysK at e
  split at e
  · rename_i kvs g
    cases e
    obtain ⟨p, kws, h1, h2, h3, up⟩ := s.get_dK g
    refine ⟨_, h1, p, kws, rfl, h2, fun l hl => ?_⟩
    have := da_unkey (F := F) kws
    rw [h3.keys (f := fun k => unkey k)] at this
    exact q _ _ F _ (Ex.refl F) (s.mine hl) this
  · cases e
def rPopK : V → List V → Hp → VK → Prop := fun x xs H Q => ∃ (a : Addr) (kvs : List (L2.Key × V)) (k : L2.Key) (v : V), x = .ref a ∧ xs = [kV k] ∧ H a = some (.dK kvs) ∧ valV kvs k = some v ∧ Q v (upd H a (.dK (dropK kvs k)))
theorem mt_popK {X : Cx} : MtR X "dict.pop" rPopK := by
  intro pins s σ H x xs v us Q I rx rxs h
  obtain ⟨a, kvs, k, u, rfl, rfl, ha, hv, q⟩ := h
  cases rx
  obtain ⟨w1, rfl, r1⟩ := L2.vals1 rxs
  exact d_pop I ha r1 hv (.inl rfl) fun w' s3 I3 rw' => ⟨u, _, I3, rw', q⟩
def isDK (i : Nat) (Γ : Ga) : Option Unit := match Γ[i]? with
  | some (.dK _) => some ()
  | _ => none
def mDPopK (i : Nat) (m : MX) : MX := fun Γ => (isDK i Γ).bind fun _ => (m Γ).bind fun r => match r.2[i]? with
  | some (.dK kvs) => (key1 r.1).bind fun k => (getD' kvs k).bind fun d => some (d, r.2.set i (.dK (dropD kvs k)))
  | _ => none
theorem evx_dpopK {K : PySem.W.Frag} {i : Nat} {te : TE} {m : MX} (h : EvX te m) : EvX (tBM K "dict" rPopK (tVar i) (tCons te tNil)) (mDPopK i m) := by
  intro a c σ Γ R F H s d Γ' e Q q
  obtain ⟨_, e0, e⟩ := Option.bind_eq_some_iff.mp e
  obtain ⟨⟨d1, Γ1⟩, e1, e⟩ := Option.bind_eq_some_iff.mp e
  have e0 : ∃ kvs, Γ[i]? = some (.dK kvs) := by
    unfold isDK at e0
    split at e0
    · exact ⟨_, by assumption⟩
    · cases e0
  obtain ⟨kvs0, e0⟩ := e0
  obtain ⟨p, kws0, e2, hp0, _, _⟩ := s.get_dK e0
  dsimp only at e
  split at e
  · rename_i kvs g
    obtain ⟨k, e3, e⟩ := Option.bind_eq_some_iff.mp e
    obtain ⟨d2, e4, e⟩ := Option.bind_eq_some_iff.mp e
    cases e
    refine ⟨.ref p, e2, .inr (.inr (.inl ⟨rfl, .inl ⟨_, hp0⟩⟩)), h a c σ Γ R F H s _ _ e1 _ fun v F' H' x s' d' => ?_⟩
    obtain ⟨p', kws, e5, hp, ha, up⟩ := s'.get_dK g
    rw [e2] at e5
    cases e5
    have ev := key1_da d' e3
    subst ev
    rcases ha.find k with ⟨d3, v3, g1, g2, g3⟩ | ⟨g1, _⟩
    · rw [e4] at g1
      cases g1
      exact ⟨p, kws, k, v3, rfl, rfl, hp, g2, q _ F' _ x (up _ _ (ha.drop k)) g3⟩
    · rw [e4] at g1
      cases g1
  · cases e
section
variable {X : Cx} {e e1 : Expr} {m n : MX} {l : ML} {rr : MR} {pos p1 p2 apos : Pos} {x : Str}
theorem x_frz (i : Nat) (hN : X.N[i]? = some x := by rfl) (hv : Vis X.env.scope x := by first | exact Or.inl rfl | exact Or.inr (Or.inl rfl) | exact Or.inr (Or.inr rfl)) (hd : (x == ("__debug__" : Str)) = false := by decide)
    (hcd : (x == ("__classdict__" : Str)) = false := by decide) : PX X (.Name x pos) (mFrz i) := ⟨_, pe_var hN hv hd hcd, evx_frz⟩
theorem t_tru (h : PR X e rr) (he : ∀ whole, isTrue e X.env whole = (do let v ← whole; standAt e.pos; holding [v] (truthy v)) := by intro _; rfl) : PTx X e (tTru rr) := let ⟨_, a, b⟩ := h; ⟨_, pt_truth a he, evt_tru b⟩
theorem x_ext (i : Nat) (h : PL X e l) (hN : X.N[i]? = some x := by rfl) (hv : Vis X.env.scope x := by first | exact Or.inl rfl | exact Or.inr (Or.inl rfl) | exact Or.inr (Or.inr rfl)) (hd : (x == ("__debug__" : Str)) = false := by decide)
    (hcd : (x == ("__classdict__" : Str)) = false := by decide)
    (hbase : attributeBase (.Name x p1) "extend" X.env (eval (.Name x p1) X.env) = eval (.Name x p1) X.env := by rfl)
    (hfew : ((backTo pos (starEach [e] X.env)).all (fun x => !x.1) && (backToKw pos (keywordEach [] X.env)).all (fun x => x.1.isSome)
      && decide ([e].length + ([] : List Keyword).length + (if ([] : List Keyword).isEmpty then 0 else 1) < 30)) = true := by rfl)
    (hline : (apos.endLine == pos.line) = true := by rfl) (hs : starEach [e] X.env = [(false, eval e X.env)] := by rfl) : PX X (.Call (.Attribute (.Name x p1) "extend" apos) [e] [] pos) (mExt i l) :=
  let ⟨_, p, q⟩ := h; ⟨_, pe_bm PySem.F.plainAttrs_list PySem.F.slot_list_extend PySem.F.type_list_extend mt_extend (pe_var hN hv hd hcd) (pa_cons p pa_nil hs) hbase hfew hline hs rfl, evx_ext q⟩
theorem x_shl1 (h1 : PX X e m) (h2 : PX X e1 n) : PX X (.BinOp e .LShift e1 pos) (mOp fShl1 m n) := x_op op_oneShl opd_shl1 h1 h2
theorem x_band (h1 : PX X e m) (h2 : PX X e1 n) : PX X (.BinOp e .BitAnd e1 pos) (mOp fBand m n) := x_op op_and opd_band h1 h2
theorem l_keysK (i : Nat) (hg : Gl X "list") (hm : X.mg "list" = none) (hc : X.calm = true) (hN : X.N[i]? = some x := by rfl) (hv : Vis X.env.scope x := by first | exact Or.inl rfl | exact Or.inr (Or.inl rfl) | exact Or.inr (Or.inr rfl)) (hd : (x == ("__debug__" : Str)) = false := by decide)
    (hcd : (x == ("__classdict__" : Str)) = false := by decide) (he : starEach [.Name x p1] X.env = [(false, eval (.Name x p1) X.env)] := by rfl) : PL X (.Call (.Name "list" p2) [.Name x p1] [] pos) (lKeysK i) :=
  ⟨_, pe_callTy (call_list_dK hc) hg hm (by decide +kernel) (pa_cons (pe_var hN hv hd hcd) pa_nil he) (by decide) (by decide) he rfl, evl_keysK⟩
theorem x_dpopK (i : Nat) (h : PX X e m) (hN : X.N[i]? = some x := by rfl) (hv : Vis X.env.scope x := by first | exact Or.inl rfl | exact Or.inr (Or.inl rfl) | exact Or.inr (Or.inr rfl)) (hd : (x == ("__debug__" : Str)) = false := by decide)
    (hcd : (x == ("__classdict__" : Str)) = false := by decide)
    (hbase : attributeBase (.Name x p1) "pop" X.env (eval (.Name x p1) X.env) = eval (.Name x p1) X.env := by rfl)
    (hfew : ((backTo pos (starEach [e] X.env)).all (fun x => !x.1) && (backToKw pos (keywordEach [] X.env)).all (fun x => x.1.isSome)
      && decide ([e].length + ([] : List Keyword).length + (if ([] : List Keyword).isEmpty then 0 else 1) < 30)) = true := by rfl)
    (hline : (apos.endLine == pos.line) = true := by rfl) (hs : starEach [e] X.env = [(false, eval e X.env)] := by rfl) : PX X (.Call (.Attribute (.Name x p1) "pop" apos) [e] [] pos) (mDPopK i m) :=
  let ⟨_, p, q⟩ := h; ⟨_, pe_bm PySem.F.plainAttrs_dict PySem.F.slot_dict_pop PySem.F.type_dict_pop mt_popK (pe_var hN hv hd hcd) (pa_cons p pa_nil hs) hbase hfew hline hs rfl, evx_dpopK q⟩
end
end MM
namespace MM
open PySem PySem.Spec PyProof.Rows L2
variable [Tb]
/-! ### a, b = l, l a list -/
def bTupL (n : Nat) (bs : List PyData → Ga → Option Ga) : MB := fun d Γ => match d with
  | .list ds => if ds.length = n then bs ds Γ else none
  | _ => none
theorem evg_tupL {K : PySem.W.Frag} {n : Nat} {t : TGs} {gs : List Nat} {bs : List PyData → Ga → Option Ga} (h : EvGs t gs bs) : EvG (gLst K n t) gs (bTupL n bs) := by
  intro a c σ Γ R F H s x d Γ' hd e Q q
  unfold bTupL at e
  split at e
  · split at e
    · rename_i z
      cases hd with
      | lst hp ha => exact ⟨_, _, rfl, .inl (.inl (s.ex _ _ hp)), ha.length.trans z, h a c σ Γ R F H s _ _ Γ' ha e Q q⟩
    · cases e
  · cases e
theorem g_tupL {X : Cx} {es : List Expr} {gs : List Nat} {bs : List PyData → Ga → Option Ga} {kk : Nat} {n : Nat} {pos : Pos} (hc : X.calm = true) (h : PGsx X es gs bs) (hn : (assignEach es X.env).length = n := by rfl) (hst : (assignEach es X.env).findIdx? (·.1) = none := by rfl) : PGx X (.Tuple es kk pos) gs (bTupL n bs) := let ⟨_, p, q⟩ := h; ⟨_, pg_lst hc p hn hst, evg_tupL q⟩
end MM


namespace MM
open PySem PySem.Spec PyProof.Rows L2

variable [Tb]
def sortLn (nss : List (List Int)) : List (List Int) := nss.mergeSort (PySem.W.dataLe false fun ns => .int ns.length)
def tSL (K : PySem.W.Frag) (te : TE) : TE := fun σ H Q => te σ H fun xv H2 => ∃ (a : Addr) (vs : List V) (nss : List (List Int)), xv = .ref a ∧ (SqL K H2 a vs ∨ SqT K H2 a vs) ∧ Paired (fun v ns => TupI K H2 v ns) vs nss ∧
  ∀ (p : Addr) (ys : List V), Paired (fun y ns => (y, ns) ∈ vs.zip nss) ys (sortLn nss) → H2 p = none → Q (.ref p) (upd H2 p (.lst ys))
theorem intsAre_len : ∀ {vs : List Value} {ns : List Int}, IntsAre vs ns → vs.length = ns.length
  | _, _, .nil => rfl
  | _, _, .cons _ _ t => congrArg (· + 1) (intsAre_len t)
theorem pe_sortL {X : Cx} {e : Expr} {te : TE} {p pos kpos p1 : Pos} (hu : X.A.units + 6 < cLine) (hg1 : Gl X "len") (hm1 : X.mg "len" = none) (hg : Gl X "sorted") (hm : X.mg "sorted" = none) (h : PE X e te) (he : starEach [e] X.env = [(false, eval e X.env)]) :
    PE X (.Call (.Name "sorted" p) [e] [⟨some "key", .Name "len" p1, kpos⟩] pos) (tSL X.K te) := by
  refine ⟨fun pins s σ H Q I hq => ?_⟩
  refine wpAny_Call_Name_kw (ld_blt I hg hm (u := .builtin "sorted") (by decide +kernel) (callWith_kw ?_ (by rw [he]; rfl) (by rw [he]; rfl) rfl rfl) (by decide) (by decide))
  have one : backTo pos (starEach [e] X.env) = (false, eval e X.env) :: [] := by rw [he]; rfl
  rw [one]
  refine Calls.spliced_cons (thn (h.run pins s σ H _ I hq) fun u s2 ⟨xv, H2, I2, r1, q1⟩ => Calls.spliced_nil ?_)
  refine wpAny_evalAll_cons (wpAny_bind ?_)
  refine ld_blt I2 hg1 hm1 (u := .builtin "len") (by decide +kernel) ?_ (by decide) (by decide)
  refine wpAny_bind (wpAny_standAt (wpAny_pure (wpAny_evalAll_nil ?_)))
  obtain ⟨a, vs, nss, rfl, hs, hp, q2⟩ := q1
  cases r1
  have hlen : vs.length = nss.length := Paired.length hp
  obtain ⟨T, o, its, n, hT, ho, hc, hd, rv, hz⟩ : ∃ (T : String) (o : Obj) (its : List Value) (n : Nat), (T = "list" ∨ T = "tuple") ∧ s2.heap.get? a = some o ∧ o.cls = .type T ∧ o.data = .seq its.toArray n ∧ Vals vs its ∧ vs.length ≤ sizeLine := by
    rcases hs with hs | hs
    · obtain ⟨its, rv, pl, hz⟩ := I2.list hs
      obtain ⟨o, h1, h2, n, h3⟩ := PlainL.isList pl
      exact ⟨"list", o, its, n, .inl rfl, h1, h2, h3, rv, hz⟩
    · obtain ⟨its, rv, ⟨o, h1, h2, n, h3⟩, hz⟩ := I2.tuple hs
      exact ⟨"tuple", o, its, n, .inr rfl, h1, h2, h3, rv, hz⟩
  refine sorted_any (R := KeyR s2.heap (vs.zip nss)) (bs := nss) (f := .builtin "len") (fun ns => .int ns.length) hT ho hc hd (each_key I2 rv hp fun _ m => m) ?_ ?_ (by omega) ?_ (PyProof.Rows.ksk_s1 _ _) (fun y => PyProof.Rows.ksk_l1 _ _) (fun y => PyProof.Rows.ksk_t4 _ y) ?_ ?_
  · intro d md d' md'
    obtain ⟨n, _, rfl⟩ := List.mem_map.mp md
    obtain ⟨m, _, rfl⟩ := List.mem_map.mp md'
    rfl
  · refine .inr fun d md => ?_
    obtain ⟨n, _, rfl⟩ := List.mem_map.mp md
    exact ⟨(fun z => nomatch z), (fun xs z => nomatch z)⟩
  · intro n _
    show X.A.units + 2 + 0 < cLine
    omega
  · intro v ns hv mb h tk keep
    obtain ⟨hv1, ⟨b, xs, rfl, ⟨o, o1, o2, m, o3⟩, o4⟩, hv3⟩ := hv
    have hit : xs.size = ns.length := by
      rw [← Array.length_toList]
      exact intsAre_len o4
    refine len_tuple ⟨o, keep _ _ o1, o2, m, o3⟩ (by have := line63; omega) ?_
    rw [hit]
    exact ⟨h, _, rfl, fun _ _ z => z, .int _ _⟩
  · intro out c0 h' tk keep hat hl each
    obtain ⟨e1, e2⟩ := each_out each
    refine ⟨.ref (s2.heap.objs.size + 1), _, I2.laid (t' := tk) (o := .lst (out.map backV)) keep (Nat.le_succ _) ⟨?_, out, c0, e1, hat⟩, rfl, q2 _ _ e2 (I2.hok.fresh (Nat.le_succ _))⟩
    rw [List.length_map]
    omega
def fSortLen (d : PyData) : Option (List PyData) := (itemsD d).bind fun ds => (nssOf ds).bind fun nss => some ((sortLn nss).map tupN)
theorem evl_sortL {K : PySem.W.Frag} {te : TE} {rr : MR} (h : EvR te rr) : EvL (tSL K te) (l1 fSortLen rr) := by
  intro a c σ Γ R F H s es Γ' e Q q
  obtain ⟨⟨w, Γ1⟩, e1, e⟩ := Option.bind_eq_some_iff.mp e
  obtain ⟨d, e2, e⟩ := Option.bind_eq_some_iff.mp e
  obtain ⟨ds, e3, e⟩ := Option.bind_eq_some_iff.mp e
  cases e
  refine h a c σ Γ R F H s w _ e1 _ fun v F1 H1 x1 s1 l => ?_
  have l := l _ _ _ _ (Ex.refl _) s1 e2
  obtain ⟨ds', e4, e3⟩ := Option.bind_eq_some_iff.mp e3
  obtain ⟨nss, e5, e3⟩ := Option.bind_eq_some_iff.mp e3
  cases e3
  have e5 := nssOf_eq e5
  subst e5
  obtain ⟨p, vs, rfl, hp, ha⟩ : ∃ p vs, v = .ref p ∧ (SqL K H1 p vs ∨ SqT K H1 p vs) ∧ DaAll F1 vs (nss.map tupN) := by
    cases d <;> simp only [itemsD] at e4 <;> first | (cases e4; done) | skip
    · cases e4
      obtain ⟨p, vs, rfl, hp, ha⟩ := l
      exact ⟨p, vs, rfl, .inl (.inl (.inl hp)), ha⟩
    · cases e4
      have l : Da F1 v (.tuple _) := l
      cases l with
      | tup hp ha => exact ⟨_, _, rfl, .inr (.inl (.inl (s1.ex _ _ hp))), ha⟩
  obtain ⟨h1, h2⟩ := da_tupI (K := K) s1.ex ha
  refine ⟨p, vs, nss, rfl, hp, h1, fun b ys hy hb => ?_⟩
  refine q b ys F1 _ x1 (s1.mine hb) ?_
  clear q hb
  generalize sortLn nss = bs at hy ⊢
  induction hy with
  | nil => exact .nil
  | cons y _ ih => exact .cons (h2 _ y) ih
theorem l_sortLen {X : Cx} {e : Expr} {rr : MR} {p pos kpos p1 : Pos} {k : Nat} (hr : Room k X.A) (hg1 : Gl X "len") (hm1 : X.mg "len" = none) (hg : Gl X "sorted") (hm : X.mg "sorted" = none) (h : PR X e rr) (he : starEach [e] X.env = [(false, eval e X.env)] := by rfl) :
    PL X (.Call (.Name "sorted" p) [e] [⟨some "key", .Name "len" p1, kpos⟩] pos) (l1 fSortLen rr) :=
  let ⟨_, a, b⟩ := h; ⟨_, pe_sortL (hu_n hr) hg1 hm1 hg hm a he, evl_sortL b⟩
end MM


namespace MM
open PySem PySem.Spec PyProof.Rows L2

/-! ### sorted(t), t a tuple of ints -/
section
variable {prog : Program} {w : World} {A : Around} {E : Value → Shared → Prop} {s : Shared} {vs : List Value} {ns : List Int}
theorem ints_read {h : Heap} : ∀ {vs : List Value} {ns : List Int}, IntsAre vs ns → PySem.W.EachIs (fun v b => ∃ as, Reads h v (PyData.int b) as) vs ns
  | _, _, .nil => .nil
  | _, _, .cons n t r => .cons ⟨[], .int n t⟩ (ints_read r)
theorem ints_each : ∀ {vs : List Value} {ns : List Int}, IntsAre vs ns → PySem.W.EachIs (fun v b => ∃ t, v = Value.int b t) vs ns
  | _, _, .nil => .nil
  | _, _, .cons n t r => .cons ⟨t, rfl⟩ (ints_each r)
theorem each_ints : ∀ {vs : List Value} {ns : List Int}, PySem.W.EachIs (fun v b => ∃ t, v = Value.int b t) vs ns → IntsAre vs ns
  | _, _, .nil => .nil
  | _, _, .cons ⟨t, e⟩ r => by
    subst e
    exact .cons _ t (each_ints r)
theorem sorted_anyI {T : String} {l : Addr} {o : Obj} {n : Nat} {Q : Value → Shared → Prop} (hT : T = "list" ∨ T = "tuple") (ho : s.heap.get? l = some o) (hc : o.cls = .type T) (hd : o.data = .seq vs.toArray n) (hi : IntsAre vs ns) (hL : vs.length ≤ sizeLine) (hu : A.units + 2 < cLine)
    (h : ∀ out, IntsAre out (ns.mergeSort fun a b => decide (a ≤ b)) → Q (.ref (s.heap.objs.size + 1)) { s with heap := sortedAll s.heap vs (List.toArray out) }) : wpAny (model prog w) A (call (.builtin "sorted") [.ref l]) Q E s := by
  refine Calls.call_function_entry kind_sorted plain_sorted entry_sorted (args_sorted1 _) ?_; unfold Builtin.«sorted»
  refine wpAny_bind (m := checkCount "sorted" 1 1 _) (wpAny_pure (wpAny_bind (collect_sq hT ho hc hd hL ?_)))
  refine wpAny_bind (wpAny_newList (s := { s with heap := (s.heap.push (seqObj "list" #[] 0)).update s.heap.objs.size (Obj.mapSeq (· ++ vs.toArray)) }) ?_ hL)
  have hsz : ((s.heap.push (seqObj "list" #[] 0)).update s.heap.objs.size (Obj.mapSeq (· ++ vs.toArray))).objs.size = s.heap.objs.size + 1 := (Heap.size_update ..).trans (size_push' ..)
  show wpAny _ _ _ _ _ { s with heap := PySem.W.copyHeap s.heap vs }; rw [hsz]
  have hal : PySem.W.AllAlike (ns.map PyData.int) := fun d md d' md' => by
    obtain ⟨x, _, rfl⟩ := List.mem_map.mp md
    obtain ⟨y, _, rfl⟩ := List.mem_map.mp md'
    rfl
  have hk : PySem.W.Sortable (ns.map PyData.int) := .inr fun d md => by
    obtain ⟨x, _, rfl⟩ := List.mem_map.mp md
    exact ⟨(fun z => nomatch z), (fun xs z => nomatch z)⟩
  have er : PySem.W.EachIs (fun v b => ∃ as, Reads (PySem.W.sortingHeap (PySem.W.copyHeap s.heap vs) (s.heap.objs.size + 1) vs) v (PyData.int b) as) vs ns := ints_read hi
  refine wpAny_bind (wpAny_holding (wpAny_call_entry_kw slot_list_sort ⟨_, PySem.W.copyHeap_at s.heap vs, rfl⟩ entry_list_sort ?body (args_list_sort _)))
  case body =>
    have S := PySem.W.SortsAt.data (prog := prog) (w := w) (A := A.in1.in1) (s := { s with heap := PySem.W.sortingHeap (PySem.W.copyHeap s.heap vs) (s.heap.objs.size + 1) vs }) (ds := ns.map PyData.int) (PySem.W.each_map (R := fun v d => ∃ as, Reads (PySem.W.sortingHeap (PySem.W.copyHeap s.heap vs) (s.heap.objs.size + 1) vs) v d as) PyData.int er) hal hk
      (fun d md => by obtain ⟨x, _, rfl⟩ := List.mem_map.mp md; show A.units + 2 + 0 < cLine; omega)
    refine PySem.W.list_sort_vals (s := { s with heap := PySem.W.copyHeap s.heap vs }) (PySem.W.copyHeap_at s.heap vs) S hL ⟨_, rfl, wpAny_pure ⟨_, rfl, ?_⟩⟩
    refine h _ (each_ints ?_)
    have e := PySem.W.sortVals_data (R := fun v b => ∃ t, v = Value.int b t) (enc := PyData.int) false (ints_each hi) er hal
    rw [PySem.W.dataLe_int (fun b : Int => b)] at e
    exact e
end
variable [Tb]
def rSortU (K : PySem.W.Frag) : List V → Hp → VK → Prop := fun vs H Q => ∃ (a : Addr) (ns : List Int), vs = [V.ref a] ∧ SqT K H a (ns.map V.int) ∧ ∀ p, H p = none → Q (.ref p) (upd H p (.lst ((sortI ns).map V.int)))
theorem cr_sortU {X : Cx} (hu : X.A.units + 2 < cLine) : CallR X (.builtin "sorted") (rSortU X.K) := by
  intro pins s σ H vs us Q I r h
  obtain ⟨a, ns, rfl, hs, q⟩ := h
  obtain rfl := Vals.ref1 r
  obtain ⟨its, rv, ⟨o, h1, h2, n, h3⟩, hz⟩ := I.tuple hs
  have hi := rv.ints
  refine sorted_anyI (.inr rfl) h1 h2 h3 hi (by rw [← rv.length]; exact hz) hu fun out ho => ?_
  obtain ⟨ep, he'⟩ := PyProof.Rows.sortedAll_at s.heap its (List.toArray out)
  have hlen : ((sortI ns).map V.int).length ≤ sizeLine := by
    rw [List.length_map, (sortI_perm ns).length_eq]
    rw [List.length_map] at hz
    exact hz
  exact ⟨.ref _, upd H (s.heap.objs.size + 1) (.lst ((sortI ns).map V.int)), I.laid (t' := s.toks) (fun _ _ => PyProof.Rows.sortedAll_old) (Nat.le_succ _) ⟨hlen, _, ep, vals_of_ints ho, he'⟩, rfl, q _ (I.hok.fresh (Nat.le_succ _))⟩
def fSortU : PyData → Option (List PyData)
  | .tuple ds => (intsOf ds).bind fun ns => some ((sortI ns).map PyData.int)
  | _ => none
theorem calll_sortU {K : PySem.W.Frag} : CallL (rSortU K) fSortU := by
  intro a c σ Γ R F H s v d e l h Q q
  unfold fSortU at h
  split at h
  · obtain ⟨ns, e1, h⟩ := Option.bind_eq_some_iff.mp h
    cases h
    have e1 := intsOf_eq e1
    subst e1
    have l : Da F v (.tuple (ns.map PyData.int)) := l
    cases l with
    | tup hp ha =>
      have b := da_ints ha
      subst b
      exact ⟨_, ns, rfl, .inl (.inl (s.ex _ _ hp)), fun p' h3 => q _ _ _ _ (Ex.refl F) (s.mine h3) (ints_da _)⟩
  · cases h
theorem l_sortU {X : Cx} {e : Expr} {rr : MR} {pos : Pos} (hu : X.A.units + 2 < cLine) (hg : Gl X "sorted") (hm : X.mg "sorted" = none) (h : PR X e rr) (he : starEach [e] X.env = [(false, eval e X.env)] := by rfl) {p : Pos} : PL X (.Call (.Name "sorted" p) [e] [] pos) (l1 fSortU rr) :=
  let ⟨_, a, b⟩ := h; ⟨_, pe_callB (cr_sortU hu) hg hm (by decide +kernel) (pa_cons a pa_nil he) (by decide) (by decide) he rfl, evl_1 calll_sortU b⟩
end MM


namespace Tst
open PySem PySem.Spec PyProof.Rows L2 MM
variable [Tb]
def topS (i : Nat) : Stmt := PySem.Challenge.pw_foxborders_k47_whole_lots_that_do_not_cr.main.body.getD i (.Pass ⟨0, 0, 0, 0⟩)
abbrev st_p_is_number : Stmt := topS 1
abbrev st_p_mask_of : Stmt := topS 3
abbrev st_p_is_lot : Stmt := topS 5
abbrev st_p_leaves : Stmt := topS 6
abbrev st_p_shires_of : Stmt := topS 7
abbrev st_p_parted : Stmt := topS 8
abbrev st_p_lots_of : Stmt := topS 9
abbrev st_p_plan_by_lots : Stmt := topS 10
abbrev st_p_formed : Stmt := topS 11
abbrev st_p_cross : Stmt := topS 12
abbrev st_p_first_cross : Stmt := topS 13
abbrev st_p_judge_lots : Stmt := topS 14
abbrev st_p_plan_of : Stmt := topS 15
abbrev st_open_cells : Stmt := topS 17
abbrev st_pick : Stmt := topS 18
abbrev st_any_order : Stmt := topS 19
abbrev st_plan_lots : Stmt := topS 20
abbrev st_draw_plan : Stmt := topS 21
abbrev st_formed : Stmt := topS 22
abbrev st_is_lot : Stmt := topS 23
abbrev st_cross : Stmt := topS 24
abbrev st_lots_fault : Stmt := topS 25
abbrev st_plan_by : Stmt := topS 26
abbrev st_all_lots : Stmt := topS 27
abbrev st_grown_right : Stmt := topS 28
abbrev st_turned : Stmt := topS 30
abbrev st_two_right : Stmt := topS 29
abbrev st_law : Stmt := topS 31
structure Txt (K : PySem.W.Frag) (mg : Str → Option Value) (base : Heap) where
  f_p_is_number : Addr
  d_p_is_number : FuncData
  F_p_is_number : Fun K "is_number" "is_number" st_p_is_number f_p_is_number d_p_is_number
  g_p_is_number : mg "is_number" = some (.ref f_p_is_number)
  b_p_is_number : Binds K d_p_is_number ["value"] []
  f_p_mask_of : Addr
  d_p_mask_of : FuncData
  F_p_mask_of : Fun K "mask_of" "mask_of" st_p_mask_of f_p_mask_of d_p_mask_of
  g_p_mask_of : mg "mask_of" = some (.ref f_p_mask_of)
  b_p_mask_of : Binds K d_p_mask_of ["shires"] []
  f_p_is_lot : Addr
  d_p_is_lot : FuncData
  F_p_is_lot : Fun K "is_lot" "is_lot" st_p_is_lot f_p_is_lot d_p_is_lot
  g_p_is_lot : mg "is_lot" = some (.ref f_p_is_lot)
  b_p_is_lot : Binds K d_p_is_lot ["n", "value"] []
  f_p_leaves : Addr
  d_p_leaves : FuncData
  F_p_leaves : Fun K "_leaves" "_leaves" st_p_leaves f_p_leaves d_p_leaves
  g_p_leaves : mg "_leaves" = some (.ref f_p_leaves)
  b_p_leaves : Binds K d_p_leaves ["value"] []
  f_p_shires_of : Addr
  d_p_shires_of : FuncData
  F_p_shires_of : Fun K "shires_of" "shires_of" st_p_shires_of f_p_shires_of d_p_shires_of
  g_p_shires_of : mg "shires_of" = some (.ref f_p_shires_of)
  b_p_shires_of : Binds K d_p_shires_of ["plan"] []
  f_p_parted : Addr
  d_p_parted : FuncData
  F_p_parted : Fun K "_parted" "_parted" st_p_parted f_p_parted d_p_parted
  g_p_parted : mg "_parted" = some (.ref f_p_parted)
  b_p_parted : Binds K d_p_parted ["plan"] []
  f_p_lots_of : Addr
  d_p_lots_of : FuncData
  F_p_lots_of : Fun K "lots_of" "lots_of" st_p_lots_of f_p_lots_of d_p_lots_of
  g_p_lots_of : mg "lots_of" = some (.ref f_p_lots_of)
  b_p_lots_of : Binds K d_p_lots_of ["plan"] []
  f_p_plan_by_lots : Addr
  d_p_plan_by_lots : FuncData
  F_p_plan_by_lots : Fun K "plan_by_lots" "plan_by_lots" st_p_plan_by_lots f_p_plan_by_lots d_p_plan_by_lots
  g_p_plan_by_lots : mg "plan_by_lots" = some (.ref f_p_plan_by_lots)
  b_p_plan_by_lots : Binds K d_p_plan_by_lots ["lots"] []
  f_p_formed : Addr
  d_p_formed : FuncData
  F_p_formed : Fun K "formed" "formed" st_p_formed f_p_formed d_p_formed
  g_p_formed : mg "formed" = some (.ref f_p_formed)
  b_p_formed : Binds K d_p_formed ["plan"] []
  f_p_cross : Addr
  d_p_cross : FuncData
  F_p_cross : Fun K "_cross" "_cross" st_p_cross f_p_cross d_p_cross
  g_p_cross : mg "_cross" = some (.ref f_p_cross)
  b_p_cross : Binds K d_p_cross ["one", "other"] []
  f_p_first_cross : Addr
  d_p_first_cross : FuncData
  F_p_first_cross : Fun K "_first_cross" "_first_cross" st_p_first_cross f_p_first_cross d_p_first_cross
  g_p_first_cross : mg "_first_cross" = some (.ref f_p_first_cross)
  b_p_first_cross : Binds K d_p_first_cross ["lots"] []
  f_p_judge_lots : Addr
  d_p_judge_lots : FuncData
  F_p_judge_lots : Fun K "judge_lots" "judge_lots" st_p_judge_lots f_p_judge_lots d_p_judge_lots
  g_p_judge_lots : mg "judge_lots" = some (.ref f_p_judge_lots)
  b_p_judge_lots : Binds K d_p_judge_lots ["n", "value"] []
  f_p_plan_of : Addr
  d_p_plan_of : FuncData
  F_p_plan_of : Fun K "plan_of" "plan_of" st_p_plan_of f_p_plan_of d_p_plan_of
  g_p_plan_of : mg "plan_of" = some (.ref f_p_plan_of)
  b_p_plan_of : Binds K d_p_plan_of ["n", "lots"] []
  f_open_cells : Addr
  d_open_cells : FuncData
  F_open_cells : Fun K "_law_open_cells" "_law_open_cells" st_open_cells f_open_cells d_open_cells
  g_open_cells : mg "_law_open_cells" = some (.ref f_open_cells)
  b_open_cells : Binds K d_open_cells ["script"] []
  f_pick : Addr
  d_pick : FuncData
  F_pick : Fun K "_law_pick" "_law_pick" st_pick f_pick d_pick
  g_pick : mg "_law_pick" = some (.ref f_pick)
  b_pick : Binds K d_pick ["source", "most"] []
  f_any_order : Addr
  d_any_order : FuncData
  F_any_order : Fun K "_law_any_order" "_law_any_order" st_any_order f_any_order d_any_order
  g_any_order : mg "_law_any_order" = some (.ref f_any_order)
  b_any_order : Binds K d_any_order ["source", "things"] []
  f_plan_lots : Addr
  d_plan_lots : FuncData
  F_plan_lots : Fun K "_law_plan_lots" "_law_plan_lots" st_plan_lots f_plan_lots d_plan_lots
  g_plan_lots : mg "_law_plan_lots" = some (.ref f_plan_lots)
  b_plan_lots : Binds K d_plan_lots ["value"] []
  f_draw_plan : Addr
  d_draw_plan : FuncData
  F_draw_plan : Fun K "_law_draw_plan" "_law_draw_plan" st_draw_plan f_draw_plan d_draw_plan
  g_draw_plan : mg "_law_draw_plan" = some (.ref f_draw_plan)
  b_draw_plan : Binds K d_draw_plan ["source", "shires"] []
  f_formed : Addr
  d_formed : FuncData
  F_formed : Fun K "_law_formed" "_law_formed" st_formed f_formed d_formed
  g_formed : mg "_law_formed" = some (.ref f_formed)
  b_formed : Binds K d_formed ["plan"] []
  f_is_lot : Addr
  d_is_lot : FuncData
  F_is_lot : Fun K "_law_is_lot" "_law_is_lot" st_is_lot f_is_lot d_is_lot
  g_is_lot : mg "_law_is_lot" = some (.ref f_is_lot)
  b_is_lot : Binds K d_is_lot ["n", "value"] []
  f_cross : Addr
  d_cross : FuncData
  F_cross : Fun K "_law_cross" "_law_cross" st_cross f_cross d_cross
  g_cross : mg "_law_cross" = some (.ref f_cross)
  b_cross : Binds K d_cross ["one", "other"] []
  f_lots_fault : Addr
  d_lots_fault : FuncData
  F_lots_fault : Fun K "_law_lots_fault" "_law_lots_fault" st_lots_fault f_lots_fault d_lots_fault
  g_lots_fault : mg "_law_lots_fault" = some (.ref f_lots_fault)
  b_lots_fault : Binds K d_lots_fault ["n", "value"] []
  f_plan_by : Addr
  d_plan_by : FuncData
  F_plan_by : Fun K "_law_plan_by" "_law_plan_by" st_plan_by f_plan_by d_plan_by
  g_plan_by : mg "_law_plan_by" = some (.ref f_plan_by)
  b_plan_by : Binds K d_plan_by ["lots"] []
  L_plan_by : LamC base mg d_plan_by "_law_plan_by.<locals>.<lambda>"
  f_all_lots : Addr
  d_all_lots : FuncData
  F_all_lots : Fun K "_law_all_lots" "_law_all_lots" st_all_lots f_all_lots d_all_lots
  g_all_lots : mg "_law_all_lots" = some (.ref f_all_lots)
  b_all_lots : Binds K d_all_lots ["n"] []
  f_grown_right : Addr
  d_grown_right : FuncData
  F_grown_right : Fun K "_law_grown_right" "_law_grown_right" st_grown_right f_grown_right d_grown_right
  g_grown_right : mg "_law_grown_right" = some (.ref f_grown_right)
  b_grown_right : Binds K d_grown_right ["source", "n"] []
  f_turned : Addr
  d_turned : FuncData
  F_turned : Fun K "_law_turned" "_law_turned" st_turned f_turned d_turned
  g_turned : mg "_law_turned" = some (.ref f_turned)
  b_turned : Binds K d_turned ["source", "plan"] []
  f_two_right : Addr
  d_two_right : FuncData
  F_two_right : Fun K "_law_two_right" "_law_two_right" st_two_right f_two_right d_two_right
  g_two_right : mg "_law_two_right" = some (.ref f_two_right)
  b_two_right : Binds K d_two_right ["source", "n"] []
  f_law : Addr
  d_law : FuncData
  F_law : Fun K "law" "law" st_law f_law d_law
  g_law : mg "law" = some (.ref f_law)
  b_law : Binds K d_law ["script"] []
  z_len : mg "len" = none
  z_list : mg "list" = none
  z_tuple : mg "tuple" = none
  z_range : mg "range" = none
  z_dict : mg "dict" = none
  z_sorted : mg "sorted" = none
  z_sum : mg "sum" = none
  z_max : mg "max" = none
  z_min : mg "min" = none
  z_enumerate : mg "enumerate" = none
  z_zip : mg "zip" = none
  z_all : mg "all" = none
  z_any : mg "any" = none
  z_isinstance : mg "isinstance" = none
  z_int : mg "int" = none
  z_abs : mg "abs" = none
  z_repr : mg "repr" = none
  z_bool : mg "bool" = none

theorem gl_cells {H : Hp} {a c : Addr} {g : Gn} (h : srcS H a c g) : DGet H a (.str "cells") (some (.ref c)) := src_get h.1 rfl
theorem gl_left {H : Hp} {a c : Addr} {g : Gn} (h : srcS H a c g) : DGet H a (.str "left") (some (.int g.left)) := src_get h.1 rfl
theorem gl_mixed {H : Hp} {a c : Addr} {g : Gn} (h : srcS H a c g) : DGet H a (.str "mixed") (some (.int g.mixed)) := src_get h.1 rfl
theorem gl_turn {H : Hp} {a c : Addr} {g : Gn} (h : srcS H a c g) : DGet H a (.str "turn") (some (.int g.turn)) := src_get h.1 rfl
theorem pl_left {H : Hp} {a c : Addr} {g : Gn} (h : srcS H a c g) (i : Int) : DPut H a (.str "left") (.int i) (upd H a (srcD c { g with left := i })) := src_put h.1 rfl
theorem pl_turn {H : Hp} {a c : Addr} {g : Gn} (h : srcS H a c g) (i : Int) : DPut H a (.str "turn") (.int i) (upd H a (srcD c { g with turn := i })) := src_put h.1 rfl
theorem ss_left {H : Hp} {a c : Addr} {g : Gn} (h : srcS H a c g) (i : Int) : srcS (upd H a (srcD c { g with left := i })) a c { g with left := i } := ⟨upd_same, by rw [upd_ne h.2.2.symm]; exact h.2.1, h.2.2⟩
theorem ss_turn {H : Hp} {a c : Addr} {g : Gn} (h : srcS H a c g) (i : Int) : srcS (upd H a (srcD c { g with turn := i })) a c { g with turn := i } := ⟨upd_same, by rw [upd_ne h.2.2.symm]; exact h.2.1, h.2.2⟩
theorem ss_pop {H : Hp} {a c : Addr} {g : Gn} (h : srcS H a c g) (cs : List Int) : srcS (upd H c (.lst (cs.map V.int))) a c { g with cells := cs } := ⟨by rw [upd_ne h.2.2]; exact h.1, upd_same, h.2.2⟩

section
variable {P : Program} {w : World} {K : PySem.W.Frag} {mg : Str → Option Value} {base : Heap}
abbrev N_p_is_number : List Str := ["value"]
theorem sc_p_is_number : FnScope N_p_is_number ["value"] (defScope st_p_is_number) := ⟨rfl, rfl, rfl, by decide +kernel, rfl, by decide +kernel, by decide +kernel⟩
noncomputable def b_p_is_number : MS := (sRet (mAn (mIsi "int" (mVar 0)) (mNo (mIsi "bool" (mVar 0)))))
noncomputable def m_p_is_number : List PyData → Option PyData := runP 1 1 b_p_is_number
theorem n_p_is_number : ∀ ds d, m_p_is_number ds = some d → ds.length = 1 := fun _ _ h => runP_n h
theorem ok_p_is_number (T : Txt K mg base) : FnOk P w K mg base CX0 1 T.f_p_is_number T.d_p_is_number ["value"] (spP 1 m_p_is_number) := by
  refine fn_p T.F_p_is_number sc_p_is_number rfl fun cdv A outer s H E hr => ?_
  exact (s_one (s_ret (x_and (x_isi (by rfl) T.z_isinstance (by rfl) T.z_int (by decide +kernel) (x_var 0)) (x_and1 (x_not (x_isi (by rfl) T.z_isinstance (by rfl) T.z_bool (by decide +kernel) (x_var 0)))))))
abbrev N_p_mask_of : List Str := ["shires", "s"]
theorem sc_p_mask_of : FnScope N_p_mask_of ["shires"] (defScope st_p_mask_of) := ⟨rfl, rfl, rfl, by decide +kernel, rfl, by decide +kernel, by decide +kernel⟩
noncomputable def b_p_mask_of : MS := (sRet (m1 fSum (rX (fzL (lLc (iTp (mVar 0)) (bName 1) tTrue (mOp fShl1 (mC (.int 1)) (mVar 1)) [1])))))
noncomputable def m_p_mask_of : List PyData → Option PyData := runP 2 1 b_p_mask_of
theorem n_p_mask_of : ∀ ds d, m_p_mask_of ds = some d → ds.length = 1 := fun _ _ h => runP_n h
theorem ok_p_mask_of (T : Txt K mg base) : FnOk P w K mg base CX0 1 T.f_p_mask_of T.d_p_mask_of ["shires"] (spP 1 m_p_mask_of) := by
  refine fn_p T.F_p_mask_of sc_p_mask_of rfl fun cdv A outer s H E hr => ?_
  exact (s_one (s_ret (x_sum (by rfl) T.z_sum rfl (l_lc [("s", 1)] rfl sc_p_mask_of.nd (i_tup (x_var 0)) (blkOk_by (N := N_p_mask_of) (sc := defScope st_p_mask_of) (by decide +kernel)) (fun _ _ _ _ _ => (g_name 1 sc_p_mask_of.nd)) (fun _ _ _ _ _ => ts_nil) (fun _ _ _ _ _ => (x_shl1 x_int (x_var 1)))).x.r)))
abbrev N_p_is_lot : List Str := ["n", "value", "ascends", "one", "other", "s"]
theorem sc_p_is_lot : FnScope N_p_is_lot ["n", "value"] (defScope st_p_is_lot) := ⟨rfl, rfl, rfl, by decide +kernel, rfl, by decide +kernel, by decide +kernel⟩
noncomputable def b_p_is_lot : MS := (sSeq (sIf (tOrr (tNo (tX (mIsi "tuple" (mVar 1)))) (tOrr (tX (mOp (fEq false) (mVar 1) (mTup lNil))) (tNo (tX (m1 fAll (rX (fzL (lLc (iTp (mVar 1)) (bName 5) tTrue (mCall m_p_is_number (lCons (mVar 5) lNil)) [5])))))))) (sRet (mC (.bool false))) sNext)
  (sSeq (sAsg (m1 fAll (rX (fzL (lLc (iZp (mVar 1) (mSl (rX (mVar 1)) (oX (mC (.int 1))) oNo)) (bTup 2 (bCons (bName 3) (bCons (bName 4) bNil))) tTrue (mOp fLt (mVar 3) (mVar 4)) [3, 4])))) (bName 2))
  (sRet (mAn (mVar 2) (mAn (mOp fGe (mIx (rX (mVar 1)) (mC (.int 0))) (mC (.int 0))) (mOp fLt (mIx (rX (mVar 1)) (mNeg (mC (.int 1)))) (mVar 0)))))))
noncomputable def m_p_is_lot : List PyData → Option PyData := runP 6 2 b_p_is_lot
theorem n_p_is_lot : ∀ ds d, m_p_is_lot ds = some d → ds.length = 2 := fun _ _ h => runP_n h
theorem ok_p_is_lot (T : Txt K mg base) : FnOk P w K mg base CX0 2 T.f_p_is_lot T.d_p_is_lot ["n", "value"] (spP 2 m_p_is_lot) := by
  refine fn_p T.F_p_is_lot sc_p_is_lot rfl fun cdv A outer s H E hr => ?_
  exact (s_cons (s_if (w_or (t_not (t_val (x_isi (by rfl) T.z_isinstance (by rfl) T.z_tuple (by decide +kernel) (x_var 1)))) (w_or (t_eq (hu_n hr) (x_var 1) (x_tup a_nil)) (w_or1 (t_not (t_val (x_all (by rfl) T.z_all rfl (l_lc [("s", 5)] rfl sc_p_is_lot.nd (i_tup (x_var 1)) (blkOk_by (N := N_p_is_lot) (sc := defScope st_p_is_lot) (by decide +kernel)) (fun _ _ _ _ _ => (g_name 5 sc_p_is_lot.nd)) (fun _ _ _ _ _ => ts_nil) (fun _ _ _ _ _ => (x_call (ok_p_is_number T) (hr.mono (by omega)) (by rfl) T.g_p_is_number T.F_p_is_number.kp T.b_p_is_number (a_cons (x_var 5) a_nil) n_p_is_number))).x.r)))))).t (s_one (s_ret x_bl)) s_nil)
  (s_cons (s_set 2 sc_p_is_lot.nd (x_all (by rfl) T.z_all rfl (l_lc [("one", 3), ("other", 4)] rfl sc_p_is_lot.nd (i_zip (by rfl) T.z_zip (x_var 1) (x_sl (x_var 1).r (o_x x_int) o_no)) (blkOk_by (N := N_p_is_lot) (sc := defScope st_p_is_lot) (by decide +kernel)) (fun _ _ _ _ _ => (g_tup rfl (gs_cons (g_name 3 sc_p_is_lot.nd) (gs_cons (g_name 4 sc_p_is_lot.nd) gs_nil)))) (fun _ _ _ _ _ => ts_nil) (fun _ _ _ _ _ => (x_lt (x_var 3) (x_var 4)))).x.r))
  (s_one (s_ret (x_and (x_var 2) (x_and (x_ge (x_ix (x_var 1).r x_int) x_int) (x_and1 (x_lt (x_ix (x_var 1).r (x_neg x_int)) (x_var 0)))))))))
abbrev N_p_leaves : List Str := ["value", "found", "todo", "part"]
theorem sc_p_leaves : FnScope N_p_leaves ["value"] (defScope st_p_leaves) := ⟨rfl, rfl, rfl, by decide +kernel, rfl, by decide +kernel, by decide +kernel⟩
noncomputable def b_p_leaves : MS := (sSeq (sAsgL 1 (lLst lNil))
  (sSeq (sAsgL 2 (lLst (lCons (mVar 0) lNil)))
  (sSeq (sWhile 100000 (tTru (rVar 2)) (sSeq (sAsg (mPop 2) (bName 3))
  (sIf (tAn (tX (mIsi "tuple" (mVar 3))) (tX (mOp (fEq false) (m1 fLen (rX (mVar 3))) (mC (.int 2))))) (sDrop (mExt 2 (lLst (lCons (mIx (rX (mVar 3)) (mC (.int 1))) (lCons (mIx (rX (mVar 3)) (mC (.int 0))) lNil))))) (sDrop (mApp 1 (mVar 3))))))
  (sRet (mFrz 1)))))
noncomputable def m_p_leaves : List PyData → Option PyData := runP 4 1 b_p_leaves
theorem n_p_leaves : ∀ ds d, m_p_leaves ds = some d → ds.length = 1 := fun _ _ h => runP_n h
theorem ok_p_leaves (T : Txt K mg base) : FnOk P w K mg base CX0 1 T.f_p_leaves T.d_p_leaves ["value"] (spP 1 m_p_leaves) := by
  refine fn_p T.F_p_leaves sc_p_leaves rfl fun cdv A outer s H E hr => ?_
  exact (s_cons (s_setL 1 sc_p_leaves.nd (l_lst a_nil))
  (s_cons (s_setL 2 sc_p_leaves.nd (l_lst (a_cons (x_var 0) a_nil)))
  (s_cons (s_while PassesOwn.never 100000 (t_tru (r_var 2)) (s_cons (s_set 3 sc_p_leaves.nd (x_pop 2))
  (s_one (s_if (w_and (t_val (x_isi (by rfl) T.z_isinstance (by rfl) T.z_tuple (by decide +kernel) (x_var 3))) (w_and1 (t_eq (hu_n hr) (x_len (by rfl) T.z_len (x_var 3).r) x_int))).t (s_one (s_expr (x_ext 2 (l_lst (a_cons (x_ix (x_var 3).r x_int) (a_cons (x_ix (x_var 3).r x_int) a_nil)))))) (s_one (s_expr (x_app 1 (x_var 3))))))))
  (s_one (s_ret (x_frz 1))))))
abbrev N_p_shires_of : List Str := ["plan"]
theorem sc_p_shires_of : FnScope N_p_shires_of ["plan"] (defScope st_p_shires_of) := ⟨rfl, rfl, rfl, by decide +kernel, rfl, by decide +kernel, by decide +kernel⟩
noncomputable def b_p_shires_of : MS := (sRet (m1 fTuple (rX (fzL (l1 fSortI (rX (mCall m_p_leaves (lCons (mVar 0) lNil))))))))
noncomputable def m_p_shires_of : List PyData → Option PyData := runP 1 1 b_p_shires_of
theorem n_p_shires_of : ∀ ds d, m_p_shires_of ds = some d → ds.length = 1 := fun _ _ h => runP_n h
theorem ok_p_shires_of (T : Txt K mg base) : FnOk P w K mg base CX0 2 T.f_p_shires_of T.d_p_shires_of ["plan"] (spP 1 m_p_shires_of) := by
  refine fn_p T.F_p_shires_of sc_p_shires_of rfl fun cdv A outer s H E hr => ?_
  exact (s_one (s_ret (x_tuple (by rfl) T.z_tuple (l_sortI (by rfl) T.z_sorted (x_call (ok_p_leaves T) (hr.mono (by omega)) (by rfl) T.g_p_leaves T.F_p_leaves.kp T.b_p_leaves (a_cons (x_var 0) a_nil) n_p_leaves).r).x.r)))
abbrev N_p_parted : List Str := ["plan", "found", "todo", "part"]
theorem sc_p_parted : FnScope N_p_parted ["plan"] (defScope st_p_parted) := ⟨rfl, rfl, rfl, by decide +kernel, rfl, by decide +kernel, by decide +kernel⟩
noncomputable def b_p_parted : MS := (sSeq (sAsgL 1 (lLst lNil))
  (sSeq (sAsgL 2 (lLst (lCons (mVar 0) lNil)))
  (sSeq (sWhile 100000 (tTru (rVar 2)) (sSeq (sAsg (mPop 2) (bName 3))
  (sSeq (sDrop (mApp 1 (mVar 3)))
  (sIf (tX (mIsi "tuple" (mVar 3))) (sDrop (mExt 2 (lLst (lCons (mIx (rX (mVar 3)) (mC (.int 1))) (lCons (mIx (rX (mVar 3)) (mC (.int 0))) lNil))))) sNext))))
  (sRet (mFrz 1)))))
noncomputable def m_p_parted : List PyData → Option PyData := runP 4 1 b_p_parted
theorem n_p_parted : ∀ ds d, m_p_parted ds = some d → ds.length = 1 := fun _ _ h => runP_n h
theorem ok_p_parted (T : Txt K mg base) : FnOk P w K mg base CX0 1 T.f_p_parted T.d_p_parted ["plan"] (spP 1 m_p_parted) := by
  refine fn_p T.F_p_parted sc_p_parted rfl fun cdv A outer s H E hr => ?_
  exact (s_cons (s_setL 1 sc_p_parted.nd (l_lst a_nil))
  (s_cons (s_setL 2 sc_p_parted.nd (l_lst (a_cons (x_var 0) a_nil)))
  (s_cons (s_while PassesOwn.never 100000 (t_tru (r_var 2)) (s_cons (s_set 3 sc_p_parted.nd (x_pop 2))
  (s_cons (s_expr (x_app 1 (x_var 3)))
  (s_one (s_if (t_val (x_isi (by rfl) T.z_isinstance (by rfl) T.z_tuple (by decide +kernel) (x_var 3))) (s_one (s_expr (x_ext 2 (l_lst (a_cons (x_ix (x_var 3).r x_int) (a_cons (x_ix (x_var 3).r x_int) a_nil)))))) s_nil)))))
  (s_one (s_ret (x_frz 1))))))
abbrev N_p_lots_of : List Str := ["plan", "part"]
theorem sc_p_lots_of : FnScope N_p_lots_of ["plan"] (defScope st_p_lots_of) := ⟨rfl, rfl, rfl, by decide +kernel, rfl, by decide +kernel, by decide +kernel⟩
noncomputable def b_p_lots_of : MS := (sRet (m1 fTuple (rX (fzL (l1 fSortT (rX (fzL (lLc (iLs (mCall m_p_parted (lCons (mVar 0) lNil))) (bName 1) tTrue (mCall m_p_shires_of (lCons (mVar 1) lNil)) [1]))))))))
noncomputable def m_p_lots_of : List PyData → Option PyData := runP 2 1 b_p_lots_of
theorem n_p_lots_of : ∀ ds d, m_p_lots_of ds = some d → ds.length = 1 := fun _ _ h => runP_n h
theorem ok_p_lots_of (T : Txt K mg base) : FnOk P w K mg base CX0 3 T.f_p_lots_of T.d_p_lots_of ["plan"] (spP 1 m_p_lots_of) := by
  refine fn_p T.F_p_lots_of sc_p_lots_of rfl fun cdv A outer s H E hr => ?_
  exact (s_one (s_ret (x_tuple (by rfl) T.z_tuple (l_sortT (hu_n hr) (by rfl) T.z_sorted (l_lc [("part", 1)] rfl sc_p_lots_of.nd (i_list (x_call (ok_p_parted T) (hr.mono (by omega)) (by rfl) T.g_p_parted T.F_p_parted.kp T.b_p_parted (a_cons (x_var 0) a_nil) n_p_parted)) (blkOk_by (N := N_p_lots_of) (sc := defScope st_p_lots_of) (by decide +kernel)) (fun _ _ _ _ _ => (g_name 1 sc_p_lots_of.nd)) (fun _ _ _ _ _ => ts_nil) (fun _ _ _ _ _ => (x_call (ok_p_shires_of T) (hr.mono (by omega)) (by rfl) T.g_p_shires_of T.F_p_shires_of.kp T.b_p_shires_of (a_cons (x_var 1) a_nil) n_p_shires_of))).x.r).x.r)))
abbrev N_p_plan_by_lots : List Str := ["lots", "plans", "lot", "least", "one", "other", "behind", "s"]
theorem sc_p_plan_by_lots : FnScope N_p_plan_by_lots ["lots"] (defScope st_p_plan_by_lots) := ⟨rfl, rfl, rfl, by decide +kernel, rfl, by decide +kernel, by decide +kernel⟩
noncomputable def b_p_plan_by_lots : MS := (sSeq (sNewK 1)
  (sSeq (sFor (iLs (fzL (l1 fSortLen (rX (mVar 0))))) (bName 2) (sSeq (sAsg (fzL (lLc (iTp (mVar 2)) (bName 7) (tX (mInD false (mVar 7) 1)) (mVar 7) [7])) (bName 3))
  (sIf (tTru (rX (mVar 3))) (sSeq (sAsg (mVar 3) (bTupL 2 (bCons (bName 4) (bCons (bName 5) bNil))))
  (sSeq (sAsg (mDPopK 1 (mVar 5)) (bName 6))
  (sDPt 1 (mVar 4) (mTup (lCons (mDGet 1 (mVar 4)) (lCons (mVar 6) lNil)))))) (sDPt 1 (mIx (rX (mVar 2)) (mC (.int 0))) (mIx (rX (mVar 2)) (mC (.int 0)))))))
  (sRet (mDGet 1 (m1 fMinL (rX (fzL (lKeysK 1))))))))
noncomputable def m_p_plan_by_lots : List PyData → Option PyData := runP 8 1 b_p_plan_by_lots
theorem n_p_plan_by_lots : ∀ ds d, m_p_plan_by_lots ds = some d → ds.length = 1 := fun _ _ h => runP_n h
theorem ok_p_plan_by_lots (T : Txt K mg base) : FnOk P w K mg base CX0 1 T.f_p_plan_by_lots T.d_p_plan_by_lots ["lots"] (spP 1 m_p_plan_by_lots) := by
  refine fn_p T.F_p_plan_by_lots sc_p_plan_by_lots rfl fun cdv A outer s H E hr => ?_
  exact (s_cons (s_newK 1 sc_p_plan_by_lots.nd)
  (s_cons (s_for PassesOwn.never rfl (i_list (l_sortLen hr (by rfl) T.z_len (by rfl) T.z_sorted (x_var 0).r).x) calm_ls (g_name 2 sc_p_plan_by_lots.nd) (s_cons (s_setLc 3 [("s", 7)] rfl sc_p_plan_by_lots.nd (i_tup (x_var 2)) (blkOk_by (N := N_p_plan_by_lots) (sc := defScope st_p_plan_by_lots) (by decide +kernel)) (fun _ _ _ _ _ => (g_name 7 sc_p_plan_by_lots.nd)) (fun _ _ _ _ _ => (ts_one (t_ind (hu_n hr) (x_var 7) 1))) (fun _ _ _ _ _ => (x_var 7)))
  (s_one (s_if (t_tru (x_var 3).r) (s_cons (s_asg (x_var 3) (g_tupL rfl (gs_cons (g_name 4 sc_p_plan_by_lots.nd) (gs_cons (g_name 5 sc_p_plan_by_lots.nd) gs_nil))))
  (s_cons (s_set 6 sc_p_plan_by_lots.nd (x_dpopK 1 (x_var 5)))
  (s_one (s_dput 1 (hu_n hr) (x_var 4) (x_tup (a_cons (x_dget 1 (hu_n hr) (x_var 4)) (a_cons (x_var 6) a_nil))))))) (s_one (s_dput 1 (hu_n hr) (x_ix (x_var 2).r x_int) (x_ix (x_var 2).r x_int)))))))
  (s_one (s_ret (x_dget 1 (hu_n hr) (x_minL (by rfl) T.z_min rfl (l_keysK 1 (by rfl) T.z_list rfl).x.r))))))
abbrev N_p_formed : List Str := ["plan"]
theorem sc_p_formed : FnScope N_p_formed ["plan"] (defScope st_p_formed) := ⟨rfl, rfl, rfl, by decide +kernel, rfl, by decide +kernel, by decide +kernel⟩
noncomputable def b_p_formed : MS := (sRet (mCall m_p_plan_by_lots (lCons (mCall m_p_lots_of (lCons (mVar 0) lNil)) lNil)))
noncomputable def m_p_formed : List PyData → Option PyData := runP 1 1 b_p_formed
theorem n_p_formed : ∀ ds d, m_p_formed ds = some d → ds.length = 1 := fun _ _ h => runP_n h
theorem ok_p_formed (T : Txt K mg base) : FnOk P w K mg base CX0 4 T.f_p_formed T.d_p_formed ["plan"] (spP 1 m_p_formed) := by
  refine fn_p T.F_p_formed sc_p_formed rfl fun cdv A outer s H E hr => ?_
  exact (s_one (s_ret (x_call (ok_p_plan_by_lots T) (hr.mono (by omega)) (by rfl) T.g_p_plan_by_lots T.F_p_plan_by_lots.kp T.b_p_plan_by_lots (a_cons (x_call (ok_p_lots_of T) (hr.mono (by omega)) (by rfl) T.g_p_lots_of T.F_p_lots_of.kp T.b_p_lots_of (a_cons (x_var 0) a_nil) n_p_lots_of) a_nil) n_p_plan_by_lots)))
abbrev N_p_cross : List Str := ["one", "other", "both"]
theorem sc_p_cross : FnScope N_p_cross ["one", "other"] (defScope st_p_cross) := ⟨rfl, rfl, rfl, by decide +kernel, rfl, by decide +kernel, by decide +kernel⟩
noncomputable def b_p_cross : MS := (sSeq (sAsg (mOp fBand (mVar 0) (mVar 1)) (bName 2))
  (sRet (mAn (mOp (fEq true) (mVar 2) (mC (.int 0))) (mAn (mOp (fEq true) (mVar 2) (mVar 0)) (mOp (fEq true) (mVar 2) (mVar 1))))))
noncomputable def m_p_cross : List PyData → Option PyData := runP 3 2 b_p_cross
theorem n_p_cross : ∀ ds d, m_p_cross ds = some d → ds.length = 2 := fun _ _ h => runP_n h
theorem ok_p_cross (T : Txt K mg base) : FnOk P w K mg base CX0 1 T.f_p_cross T.d_p_cross ["one", "other"] (spP 2 m_p_cross) := by
  refine fn_p T.F_p_cross sc_p_cross rfl fun cdv A outer s H E hr => ?_
  exact (s_cons (s_set 2 sc_p_cross.nd (x_band (x_var 0) (x_var 1)))
  (s_one (s_ret (x_and (x_ne (hu_n hr) (x_var 2) x_int) (x_and (x_ne (hu_n hr) (x_var 2) (x_var 0)) (x_and1 (x_ne (hu_n hr) (x_var 2) (x_var 1))))))))
abbrev N_p_first_cross : List Str := ["lots", "masks", "i", "one", "j", "lot"]
theorem sc_p_first_cross : FnScope N_p_first_cross ["lots"] (defScope st_p_first_cross) := ⟨rfl, rfl, rfl, by decide +kernel, rfl, by decide +kernel, by decide +kernel⟩
noncomputable def b_p_first_cross : MS := (sSeq (sAsg (fzL (lLc (iTp (mVar 0)) (bName 5) tTrue (mCall m_p_mask_of (lCons (mVar 5) lNil)) [5])) (bName 1))
  (sSeq (sFor (iEl (mVar 1)) (bTup 2 (bCons (bName 2) (bCons (bName 3) bNil))) (sFor (iR2 (mOp fAdd (mVar 2) (mC (.int 1))) (m1 fLen (rX (mVar 1)))) (bName 4) (sIf (tX (mCall m_p_cross (lCons (mVar 3) (lCons (mIx (rX (mVar 1)) (mVar 4)) lNil)))) (sRet (mTup (lCons (mVar 2) (lCons (mVar 4) lNil)))) sNext)))
  (sRet (mC .none))))
noncomputable def m_p_first_cross : List PyData → Option PyData := runP 6 1 b_p_first_cross
theorem n_p_first_cross : ∀ ds d, m_p_first_cross ds = some d → ds.length = 1 := fun _ _ h => runP_n h
theorem ok_p_first_cross (T : Txt K mg base) : FnOk P w K mg base CX0 2 T.f_p_first_cross T.d_p_first_cross ["lots"] (spP 1 m_p_first_cross) := by
  refine fn_p T.F_p_first_cross sc_p_first_cross rfl fun cdv A outer s H E hr => ?_
  exact (s_cons (s_setLc 1 [("lot", 5)] rfl sc_p_first_cross.nd (i_tup (x_var 0)) (blkOk_by (N := N_p_first_cross) (sc := defScope st_p_first_cross) (by decide +kernel)) (fun _ _ _ _ _ => (g_name 5 sc_p_first_cross.nd)) (fun _ _ _ _ _ => ts_nil) (fun _ _ _ _ _ => (x_call (ok_p_mask_of T) (hr.mono (by omega)) (by rfl) T.g_p_mask_of T.F_p_mask_of.kp T.b_p_mask_of (a_cons (x_var 5) a_nil) n_p_mask_of)))
  (s_cons (s_for PassesOwn.never rfl (i_enumL (by rfl) T.z_enumerate (x_var 1)) calm_el (g_tup rfl (gs_cons (g_name 2 sc_p_first_cross.nd) (gs_cons (g_name 3 sc_p_first_cross.nd) gs_nil))) (s_one (s_for PassesOwn.never rfl (i_r2 (by rfl) T.z_range (x_add (x_var 2) x_int) (x_len (by rfl) T.z_len (x_var 1).r)) calm_r2 (g_name 4 sc_p_first_cross.nd) (s_one (s_if (t_val (x_call (ok_p_cross T) (hr.mono (by omega)) (by rfl) T.g_p_cross T.F_p_cross.kp T.b_p_cross (a_cons (x_var 3) (a_cons (x_ix (x_var 1).r (x_var 4)) a_nil)) n_p_cross)) (s_one (s_ret (x_tup (a_cons (x_var 2) (a_cons (x_var 4) a_nil))))) s_nil)))))
  (s_one (s_ret x_non))))
abbrev N_p_judge_lots : List Str := ["n", "value", "found", "one", "other", "lot"]
theorem sc_p_judge_lots : FnScope N_p_judge_lots ["n", "value"] (defScope st_p_judge_lots) := ⟨rfl, rfl, rfl, by decide +kernel, rfl, by decide +kernel, by decide +kernel⟩
noncomputable def b_p_judge_lots : MS := (sSeq (sIf (tOrr (tNo (tX (mIsi "tuple" (mVar 1)))) (tNo (tX (m1 fAll (rX (fzL (lLc (iTp (mVar 1)) (bName 5) tTrue (mCall m_p_is_lot (lCons (mVar 0) (lCons (mVar 5) lNil))) [5]))))))) (sRet (mTup (lCons (mC (.str "form")) lNil))) sNext)
  (sSeq (sIf (tNo (tX (m1 fAll (rX (fzL (lLc (iZp (mVar 1) (mSl (rX (mVar 1)) (oX (mC (.int 1))) oNo)) (bTup 2 (bCons (bName 3) (bCons (bName 4) bNil))) tTrue (mOp fLtT (mVar 3) (mVar 4)) [3, 4])))))) (sRet (mTup (lCons (mC (.str "form")) lNil))) sNext)
  (sSeq (sAsg (mCall m_p_first_cross (lCons (mVar 1) lNil)) (bName 2))
  (sSeq (sIf (tX (mIsN true (mVar 2))) (sRet (mOp fCat (mTup (lCons (mC (.str "cross")) lNil)) (mVar 2))) sNext)
  (sRet (mIf (tX (mOp (fEq true) (m1 fLen (rX (mVar 1))) (mOp fSub (mOp fMul (mC (.int 2)) (mVar 0)) (mC (.int 1))))) (mTup (lCons (mC (.str "many")) (lCons (m1 fLen (rX (mVar 1))) lNil))) (mC .none)))))))
noncomputable def m_p_judge_lots : List PyData → Option PyData := runP 6 2 b_p_judge_lots
theorem n_p_judge_lots : ∀ ds d, m_p_judge_lots ds = some d → ds.length = 2 := fun _ _ h => runP_n h
theorem ok_p_judge_lots (T : Txt K mg base) : FnOk P w K mg base CX0 3 T.f_p_judge_lots T.d_p_judge_lots ["n", "value"] (spP 2 m_p_judge_lots) := by
  refine fn_p T.F_p_judge_lots sc_p_judge_lots rfl fun cdv A outer s H E hr => ?_
  exact (s_cons (s_if (w_or (t_not (t_val (x_isi (by rfl) T.z_isinstance (by rfl) T.z_tuple (by decide +kernel) (x_var 1)))) (w_or1 (t_not (t_val (x_all (by rfl) T.z_all rfl (l_lc [("lot", 5)] rfl sc_p_judge_lots.nd (i_tup (x_var 1)) (blkOk_by (N := N_p_judge_lots) (sc := defScope st_p_judge_lots) (by decide +kernel)) (fun _ _ _ _ _ => (g_name 5 sc_p_judge_lots.nd)) (fun _ _ _ _ _ => ts_nil) (fun _ _ _ _ _ => (x_call (ok_p_is_lot T) (hr.mono (by omega)) (by rfl) T.g_p_is_lot T.F_p_is_lot.kp T.b_p_is_lot (a_cons (x_var 0) (a_cons (x_var 5) a_nil)) n_p_is_lot))).x.r))))).t (s_one (s_ret (x_tup (a_cons x_str a_nil)))) s_nil)
  (s_cons (s_if (t_not (t_val (x_all (by rfl) T.z_all rfl (l_lc [("one", 3), ("other", 4)] rfl sc_p_judge_lots.nd (i_zip (by rfl) T.z_zip (x_var 1) (x_sl (x_var 1).r (o_x x_int) o_no)) (blkOk_by (N := N_p_judge_lots) (sc := defScope st_p_judge_lots) (by decide +kernel)) (fun _ _ _ _ _ => (g_tup rfl (gs_cons (g_name 3 sc_p_judge_lots.nd) (gs_cons (g_name 4 sc_p_judge_lots.nd) gs_nil)))) (fun _ _ _ _ _ => ts_nil) (fun _ _ _ _ _ => (x_ltT (hu_0 hr) (x_var 3) (x_var 4)))).x.r))) (s_one (s_ret (x_tup (a_cons x_str a_nil)))) s_nil)
  (s_cons (s_set 2 sc_p_judge_lots.nd (x_call (ok_p_first_cross T) (hr.mono (by omega)) (by rfl) T.g_p_first_cross T.F_p_first_cross.kp T.b_p_first_cross (a_cons (x_var 1) a_nil) n_p_first_cross))
  (s_cons (s_if (t_isnt (x_var 2)) (s_one (s_ret (x_cat (x_tup (a_cons x_str a_nil)) (x_var 2)))) s_nil)
  (s_one (s_ret (x_if (t_ne (hu_n hr) (x_len (by rfl) T.z_len (x_var 1).r) (x_sub (x_mul x_int (x_var 0)) x_int)) (x_tup (a_cons x_str (a_cons (x_len (by rfl) T.z_len (x_var 1).r) a_nil))) x_non)))))))
abbrev N_p_plan_of : List Str := ["n", "lots"]
theorem sc_p_plan_of : FnScope N_p_plan_of ["n", "lots"] (defScope st_p_plan_of) := ⟨rfl, rfl, rfl, by decide +kernel, rfl, by decide +kernel, by decide +kernel⟩
noncomputable def b_p_plan_of : MS := (sRet (mCall m_p_plan_by_lots (lCons (mVar 1) lNil)))
noncomputable def m_p_plan_of : List PyData → Option PyData := runP 2 2 b_p_plan_of
theorem n_p_plan_of : ∀ ds d, m_p_plan_of ds = some d → ds.length = 2 := fun _ _ h => runP_n h
theorem ok_p_plan_of (T : Txt K mg base) : FnOk P w K mg base CX0 2 T.f_p_plan_of T.d_p_plan_of ["n", "lots"] (spP 2 m_p_plan_of) := by
  refine fn_p T.F_p_plan_of sc_p_plan_of rfl fun cdv A outer s H E hr => ?_
  exact (s_one (s_ret (x_call (ok_p_plan_by_lots T) (hr.mono (by omega)) (by rfl) T.g_p_plan_by_lots T.F_p_plan_by_lots.kp T.b_p_plan_by_lots (a_cons (x_var 1) a_nil) n_p_plan_by_lots)))
abbrev N_open : List Str := ["script", "stirred", "cell", "cells"]
theorem sc_open : FnScope N_open ["script"] (defScope st_open_cells) := ⟨rfl, rfl, rfl, by decide +kernel, rfl, by decide +kernel, by decide +kernel⟩
theorem mix_bound (ns : List Int) : ∀ s, 0 ≤ s ∧ s < 2147483629 → 0 ≤ ns.foldl mixStep s ∧ ns.foldl mixStep s < 2147483629 := by
  induction ns with
  | nil => exact fun s h => h
  | cons a r ih => exact fun s h => ih _ ⟨Int.emod_nonneg _ (by decide), Int.emod_lt_of_pos _ (by decide)⟩
theorem ok_open1 {f : Addr} {fd : FuncData} (F : Fun K "_law_open_cells" "_law_open_cells" st_open_cells f fd) (z1 : mg "abs" = none) (z2 : mg "int" = none) : FnOk P w K mg base CX0 1 f fd ["script"] (spOpen K) := by
  refine F.ok sc_open (fun vs H Q E h => ?_) (fun cdv A outer s H vs Q E hr h => ?_)
  · obtain ⟨sa, ns, rfl, _⟩ := h
    rfl
  · obtain ⟨sa, ns, rfl, hS, hl, q⟩ := h
    refine ⟨_, pss_cons (ps_set (i := 1) sc_open.nd rfl (.inl rfl) pe_int)
      (pss_cons (ps_for PassesOwn.never rfl (pi_list (pv 0)) (pg_name (i := 2) sc_open.nd rfl (.inl rfl))
        (pss_one (ps_set (i := 1) sc_open.nd rfl (.inl rfl) (pe_op op_mod (pe_callTy call_int1 (by rfl) z2 (by decide +kernel) (pa_cons (pe_op op_add (pe_op op_add (pe_op op_mul (pv 1) pe_int) (pe_op op_mul (pv 2) pe_int)) pe_int) pa_nil)) pe_int))))
      (pss_cons (ps_setLc (i := 3) (own := [("cell", 2)]) (g := gName 2) (tt := tYes) rfl sc_open.nd rfl rfl (sw_true rfl rfl rfl (by decide +kernel)) (pi_list (pv 0)) (blkOk_by (N := N_open) (sc := defScope st_open_cells) (by decide +kernel))
          (fun _ _ _ _ _ => pg_name (i := 2) sc_open.nd rfl (Or.inl rfl)) (fun _ _ _ _ _ => pts_nil) (fun _ _ _ _ _ => pe_callB call_abs (by rfl) z1 (by decide +kernel) (pa_cons (pv 2) pa_nil)))
      (pss_one (ps_ret (pe_disp (pps_cons pe_str (pe_revL (pv 3)) (pps_cons pe_str pe_int (pps_cons pe_str (pv 1) (pps_cons pe_str pe_int pps_nil)))) rfl rfl (by intro z; cases z) (by decide)))))), ?_⟩
    -- the loop
    refine ⟨.ref sa, rfl, sa, rfl, ⟨_, hS⟩, for_list (xs := ns.map V.int) (fun i σ H' => ∃ y, σ = [some (.ref sa), some (.int ((ns.take i).foldl mixStep 11)), y, none] ∧ H' = H) ⟨none, rfl, rfl⟩ (fun i σ H' _ p => by obtain ⟨_, _, rfl⟩ := p; exact hS) ?_ ?_⟩
    · rintro i x σ H' hx ⟨y, rfl, rfl⟩
      rw [List.getElem?_map] at hx
      cases hn : ns[i]? with
      | none => rw [hn] at hx; cases hx
      | some n =>
        rw [hn] at hx
        cases hx
        have b := mix_bound (ns.take i) 11 (by decide)
        generalize hz : (ns.take i).foldl mixStep 11 = z at *
        refine ⟨_, rfl, z, 69069, rfl, rfl, .inr ⟨by decide, by decide⟩, _, rfl, n, 31, rfl, rfl, .inr ⟨by decide, by decide⟩, z * 69069, n * 31, rfl, rfl, z * 69069 + n * 31, 5, rfl, rfl, .inl ⟨_, rfl, z * 69069 + n * 31 + 5, 2147483629, rfl, rfl, (show (0 : Int) < 2147483629 by decide), some (.int n), ?_, rfl⟩⟩
        rw [List.take_add_one, hn, Option.toList_some, List.foldl_append, hz]
        rfl
    · rintro σ H' ⟨y, rfl, rfl⟩
      rw [List.length_map, List.take_length]
      -- cells
      refine ⟨.ref sa, rfl, sa, rfl, ⟨_, hS⟩, fun D hD => ?_⟩
      refine lc_list (xs := ns.map V.int) (fun i H2 => H2 = upd H' D (.lst ((ns.take i).map fun i => V.int (if i < 0 then -i else i)))) rfl (fun i H2 _ p => ?_) ?_ ?_
      · subst p
        exact (show Same H' _ from fun b o e => by rw [upd_ne (ne_of_none e hD)]; exact e).seq hS
      · rintro i x H2 hx rfl
        rw [List.getElem?_map] at hx
        cases hn : ns[i]? with
        | none => rw [hn] at hx; cases hx
        | some n =>
          rw [hn] at hx
          cases hx
          have hi : i < ns.length := (List.getElem?_eq_some_iff.mp hn).1
          refine ⟨rfl, ?_⟩
          unfold tYes
          dsimp only
          rw [if_pos rfl]
          refine ⟨_, rfl, n, rfl, _, upd_same, ?_, ?_⟩
          · rw [List.length_map, List.length_take]
            exact small1000 (by omega)
          · rw [upd_upd, List.take_add_one, hn, Option.toList_some, List.map_append]
            rfl
      · rintro H2 rfl
        rw [List.length_map, List.take_length]
        intro p hp
        have nD : p ≠ D := fun e => by
          rw [e, upd_same] at hp
          cases hp
        refine ⟨.ref D, rfl, D, _, rfl, .inl (.inl (by rw [upd_ne (show D ≠ p from nD.symm)]; exact upd_same)), fun c hc => ?_⟩
        have nc : c ≠ p := fun e => by
          rw [e, upd_same] at hc
          cases hc
        refine ⟨_, rfl, ?_⟩
        refine ⟨by rw [upd_ne nc.symm]; exact upd_same, [(.inr "cells", .ref c), (.inr "left", .int 1), (.inr "mixed", .int (ns.foldl mixStep 11)), (.inr "turn", .int 0)], rfl, (show 4 ≤ 15 by decide), ?_⟩
        have hp0 : H' p = none := by rw [upd_ne nD] at hp; exact hp
        have hc0 : H' c = none := by
          rw [upd_ne nc] at hc
          by_cases e : c = D
          · rw [e, upd_same] at hc
            cases hc
          · rw [upd_ne e] at hc
            exact hc
        refine q p c _ hp0 hc0 (fun b o e => ?_) ⟨upd_same, ?_, nc.symm⟩
        · rw [upd_ne (ne_of_none e hp0), upd_ne (ne_of_none e hc0), upd_ne (ne_of_none e hp0), upd_ne (ne_of_none e hD)]
          exact e
        · rw [upd_ne nc, upd_same]
          show some (HO.lst _) = some (HO.lst ((((ns.map fun i => if i < 0 then -i else i).reverse)).map V.int))
          rw [← List.map_reverse, ← List.map_reverse, List.map_map]
          rfl
theorem ok_open_cells (T : Txt K mg base) : FnOk P w K mg base CX0 1 T.f_open_cells T.d_open_cells ["script"] (spOpen K) := ok_open1 T.F_open_cells T.z_abs T.z_int

theorem sc_pick : FnScope MM.N_pick ["source", "most"] (defScope st_pick) := ⟨rfl, rfl, rfl, by decide +kernel, rfl, by decide +kernel, by decide +kernel⟩
theorem ok_pick1 {f : Addr} {fd : FuncData} (F : Fun K "_law_pick" "_law_pick" st_pick f fd) (z1 : mg "len" = none) (z2 : mg "int" = none) : FnOk P w K mg base CX0 1 f fd ["source", "most"] (spS 1 m_pick) := by
  refine ok_pick0 sc_pick F z1 z2 fun cdv A outer s H E hr => ?_
  have hu := hu_of hr
  obtain ⟨tl, htl, aft⟩ : ∃ tl, PSs (cxOf CX0 P w K mg base MM.N_pick "_law_pick" (defScope st_pick) f cdv A outer s H E).nox ((defBody st_pick).drop 3) tl ∧
      ∀ (D : Ends) (H : Hp) (a c : Addr) (g : Gn) (n : Int), n < 1000000 → ¬ n < 2 → srcS H a c g → (∀ H', Kept a c H H' → srcS H' a c (pickG g n).2 → D.rt (.int (pickG g n).1) H') →
        ∀ (H1 : Hp) (g1 : Gn), Kept a c H H1 → srcS H1 a c g1 → refill g1.cells g1.left = refill g.cells g.left → g1.mixed = g.mixed → g1.turn = g.turn → refill g1.cells g1.left = (g1.cells, g1.left) →
          tl D [some (.ref a), some (.int n), some (.ref c), none, none, none] H1 := by
    refine ⟨_, pss_cons (ps_set (i := 3) sc_pick.nd rfl (.inl rfl) (pe_dget hu (pv 0) pe_str (fun _ _ => rfl)))
    (pss_cons (ps_if (pt_cmpR op_gt (pv 3) pe_int (nomark _)) (pss_cons (ps_dput hu (pv 0) pe_str (pe_op op_fdiv (pv 3) (pv 1)) rfl) (pss_one (ps_ret (pe_op op_mod (pe_callTy call_int1 (by rfl) z2 (by decide +kernel) (pa_cons (pv 3) pa_nil)) (pv 1))))) pss_nil)
    (pss_cons (ps_dput hu (pv 0) pe_str (pe_op op_add (pe_dget hu (pv 0) pe_str (fun _ _ => rfl)) pe_int) rfl)
    (pss_cons (ps_set (i := 4) sc_pick.nd rfl (.inl rfl) (pe_dget hu (pv 0) pe_str (fun _ _ => rfl)))
    (pss_cons (ps_set (i := 5) sc_pick.nd rfl (.inl rfl) (pe_op op_mod (pe_callTy call_int1 (by rfl) z2 (by decide +kernel) (pa_cons (pe_op op_add (pe_dget hu (pv 0) pe_str (fun _ _ => rfl)) (pe_op op_mul (pv 4) pe_int)) pa_nil)) pe_int))
    (pss_cons (ps_set (i := 5) sc_pick.nd rfl (.inl rfl) (pe_op op_mod (pe_callTy call_int1 (by rfl) z2 (by decide +kernel) (pa_cons (pe_op op_add (pe_op op_mul (pv 5) (pv 5)) (pe_op op_mul (pv 4) pe_int)) pa_nil)) pe_int))
    (pss_one (ps_ret (pe_op op_mod (pe_callTy call_int1 (by rfl) z2 (by decide +kernel) (pa_cons (pe_op op_fdiv (pv 5) pe_int) pa_nil)) (pv 1))))))))), ?_⟩
    intro D H a c g n hn e' hs q H1 g1 k1 s1 r1 m1 t1 fin
    have hr1 : refill g.cells g.left = (g1.cells, g1.left) := r1.symm.trans fin
    refine ⟨.ref a, rfl, a, .int g1.left, rfl, gl_left s1, ?_⟩
    refine ⟨_, rfl, g1.left, 1, rfl, rfl, _, rfl, ite2 (fun e1 => ?_) (fun e1 => ?_)⟩
    · have l1 : 1 < g1.left := of_decide_eq_true e1
      refine ⟨_, rfl, _, rfl, g1.left, n, rfl, rfl, ⟨by omega, by omega⟩, .ref a, rfl, a, _, rfl, pl_left s1 _, ?_⟩
      refine ⟨_, rfl, .inl ⟨g1.left, rfl, _, rfl, g1.left, n, rfl, rfl, by omega, ?_⟩⟩
      have e3 : pickG g n = (g1.left % n, { g1 with left := g1.left / n }) := by
        unfold pickG
        rw [if_neg e', hr1]
        dsimp only
        rw [if_pos l1, ← m1, ← t1]
      rw [e3] at q
      exact q _ (k1.trans Kept.a) (ss_left s1 (g1.left / n))
    · have l1 : ¬ 1 < g1.left := fun z => e1 (decide_eq_true z)
      have s2 := ss_turn s1 (g1.turn + 1)
      refine ⟨.ref a, rfl, a, .int g1.turn, rfl, gl_turn s1, g1.turn, 1, rfl, rfl, .ref a, rfl, a, _, rfl, pl_turn s1 _, ?_⟩
      refine ⟨.ref a, rfl, a, .int (g1.turn + 1), rfl, gl_turn s2, ?_⟩
      refine ⟨.ref a, rfl, a, .int g1.mixed, rfl, gl_mixed (g := { g1 with turn := g1.turn + 1 }) s2, _, rfl, g1.turn + 1, 104729, rfl, rfl, .inr ⟨by decide, by decide⟩, g1.mixed, _, rfl, rfl, .inl ⟨_, rfl, _, 998244353, rfl, rfl, (show (0 : Int) < 998244353 by decide), ?_⟩⟩
      dsimp only [gName]
      generalize hx : (g1.mixed + (g1.turn + 1) * 104729) % 998244353 = x
      have x0 : 0 ≤ x := by rw [← hx]; exact Int.emod_nonneg _ (by decide)
      have x1 : x < 998244353 := by rw [← hx]; exact Int.emod_lt_of_pos _ (by decide)
      refine ⟨_, rfl, _, rfl, x, x, rfl, rfl, .inl ⟨by omega, by omega⟩, _, rfl, g1.turn + 1, 17, rfl, rfl, .inr ⟨by decide, by decide⟩, x * x, _, rfl, rfl, .inl ⟨_, rfl, _, 2147483647, rfl, rfl, (show (0 : Int) < 2147483647 by decide), ?_⟩⟩
      refine ⟨_, rfl, _, 16, rfl, rfl, ⟨by decide, by decide⟩, .inl ⟨_, rfl, _, rfl, _, n, rfl, rfl, by omega, ?_⟩⟩
      have e3 : pickG g n = (((x * x + (g1.turn + 1) * 17) % 2147483647 / 16) % n, { g1 with turn := g1.turn + 1 }) := by
        unfold pickG
        rw [if_neg e', hr1]
        dsimp only
        rw [if_neg l1, ← m1, ← t1, hx]
      rw [e3] at q
      exact q _ (k1.trans Kept.a) s2
  refine ⟨_, pss_cons (ps_if (pt_cmpR op_lt (pv 1) pe_int (nomark _)) (pss_one (ps_ret pe_int)) pss_nil)
    (pss_cons (ps_set (i := 2) sc_pick.nd rfl (.inl rfl) (pe_dget hu (pv 0) pe_str (fun _ _ => rfl)))
    (pss_cons (ps_while PassesOwn.never (pw_and (pt_cmpR op_lt (pe_dget hu (pv 0) pe_str (fun _ _ => rfl)) pe_int (nomark _)) (pw_and1 (pt_cmpR op_gt (pe_callB call_len_seq (by rfl) z1 PySem.boot_len (pa_cons (pv 2) pa_nil)) pe_int (nomark _)))).pt
       (pss_one (ps_dput hu (pv 0) pe_str (pe_bm0 PySem.F.plainAttrs_list PySem.F.slot_list_pop PySem.F.type_list_pop mt_pop (pv 2)) rfl))) htl)), ?_⟩
  intro D H a c g n hn hs q
  -- if most < 2
  refine ⟨_, rfl, n, 2, rfl, rfl, _, rfl, ite2 (fun e => ?_) (fun e => ?_)⟩
  · have e' : n < 2 := of_decide_eq_true e
    have r : pickG g n = (0, g) := by unfold pickG; rw [if_pos e']
    rw [r] at q
    exact q H Kept.refl hs
  have e' : ¬ n < 2 := fun z => e (decide_eq_true z)
  have aft := fun H1 g1 => aft D H a c g n hn e' hs q H1 g1
  -- cells
  refine ⟨.ref a, rfl, a, .ref c, rfl, gl_cells hs, ?_⟩
  -- the loop
  refine ⟨fun m σ H' => ∃ g', σ = [some (.ref a), some (.int n), some (.ref c), none, none, none] ∧ m = g'.cells.length ∧ Kept a c H H' ∧ srcS H' a c g' ∧ refill g'.cells g'.left = refill g.cells g.left ∧ g'.mixed = g.mixed ∧ g'.turn = g.turn, ⟨_, g, rfl, rfl, Kept.refl, hs, rfl, rfl, rfl⟩, ?_⟩
  rintro m σ H1 ⟨g1, rfl, rfl, k1, s1, r1, m1, t1⟩
  refine ⟨.ref a, rfl, a, .int g1.left, rfl, gl_left s1, g1.left, 2, rfl, rfl, _, rfl, ite2 (fun e1 => ?_) (fun e1 => ?_)⟩
  · have l1 : g1.left < 2 := of_decide_eq_true e1
    refine ⟨.ref c, rfl, c, g1.cells.map V.int, rfl, .inl (.inl (.inl s1.2.1)), _, 0, rfl, rfl, _, rfl, ite2 (fun e2 => ?_) (fun e2 => ?_)⟩
    · have l2 : (0 : Int) < ((g1.cells.map V.int).length : Int) := of_decide_eq_true e2
      rw [List.length_map] at l2
      have ne : g1.cells ≠ [] := fun z => by
        rw [z] at l2
        simp at l2
      have hg : (g1.cells.map V.int)[(g1.cells.map V.int).length - 1]? = some (.int (g1.cells.getLast ne)) := by
        rw [List.getElem?_map, List.length_map, ← List.getLast?_eq_getElem?, List.getLast?_eq_getLast ne]
        rfl
      refine ⟨fun σ' H' => ∃ g', σ' = [some (.ref a), some (.int n), some (.ref c), none, none, none] ∧ g'.cells.length < g1.cells.length ∧ Kept a c H H' ∧ srcS H' a c g' ∧ refill g'.cells g'.left = refill g.cells g.left ∧ g'.mixed = g.mixed ∧ g'.turn = g.turn,
        fun σ' H' ⟨g', x1, x2, x3⟩ => ⟨_, x2, g', x1, rfl, x3⟩, ?_⟩
      refine ⟨.ref c, rfl, .inl ⟨rfl, _, .inl (.inl s1.2.1)⟩, c, g1.cells.map V.int, _, rfl, rfl, s1.2.1, hg, ?_⟩
      rw [← List.map_dropLast]
      have s2 := ss_pop s1 g1.cells.dropLast
      refine ⟨.ref a, rfl, a, _, rfl, pl_left s2 _, { g1 with cells := g1.cells.dropLast, left := g1.cells.getLast ne }, rfl, ?_, (k1.trans Kept.c).trans Kept.a, ss_left s2 _, ?_, m1, t1⟩
      · show g1.cells.dropLast.length < g1.cells.length
        rw [List.length_dropLast]
        omega
      · rw [← r1]
        show refill g1.cells.dropLast (g1.cells.getLast ne) = refill g1.cells g1.left
        conv => rhs; unfold refill
        rw [dif_pos ⟨l1, ne⟩]
    · have l2 : ¬ (0 : Int) < ((g1.cells.map V.int).length : Int) := fun z => e2 (decide_eq_true z)
      refine aft H1 g1 k1 s1 r1 m1 t1 ?_
      unfold refill
      rw [dif_neg]
      intro z
      rw [List.length_map] at l2
      have := List.length_pos_iff.mpr z.2
      omega
  · have l1 : ¬ g1.left < 2 := fun z => e1 (decide_eq_true z)
    refine aft H1 g1 k1 s1 r1 m1 t1 ?_
    unfold refill
    rw [dif_neg (fun z => l1 z.1)]
theorem ok_pick (T : Txt K mg base) : FnOk P w K mg base CX0 1 T.f_pick T.d_pick ["source", "most"] (spS 1 m_pick) := ok_pick1 T.F_pick T.z_len T.z_int

abbrev N_any_order : List Str := ["source", "things", "others", "lap"]
theorem sc_any_order : FnScope N_any_order ["source", "things"] (defScope st_any_order) := ⟨rfl, rfl, rfl, by decide +kernel, rfl, by decide +kernel, by decide +kernel⟩
noncomputable def b_any_order : MS := (sSeq (sAsgL 2 (l1 items (rX (mVar 1))))
  (sRet (fzL (lLc (iR1 (m1 fLen (rVar 2))) (bName 3) tTrue (mPopAt 2 (mCallS 0 m_pick (lCons (m1 fLen (rVar 2)) lNil))) [3]))))
noncomputable def m_any_order : Gn → List PyData → Option (PyData × Gn) := runS 4 1 b_any_order
theorem n_any_order : ∀ g ds d, m_any_order g ds = some d → ds.length = 1 := fun _ _ _ h => runS_n h
theorem ok_any_order (T : Txt K mg base) : FnOk P w K mg base CX0 2 T.f_any_order T.d_any_order ["source", "things"] (spS 1 m_any_order) := by
  refine fn_s T.F_any_order sc_any_order rfl fun cdv A outer s H E hr => ?_
  exact (s_cons (s_setL 2 sc_any_order.nd (l_list (by rfl) T.z_list (x_var 1).r))
  (s_one (s_ret (l_lc [("lap", 3)] rfl sc_any_order.nd (i_r1 (by rfl) T.z_range (x_len (by rfl) T.z_len (r_var 2))) (blkOk_by (N := N_any_order) (sc := defScope st_any_order) (by decide +kernel)) (fun _ _ _ _ _ => (g_name 3 sc_any_order.nd)) (fun _ _ _ _ _ => ts_nil) (fun _ _ _ _ _ => (x_popAt 2 (x_callS 0 (ok_pick T) (hr.mono (by omega)) (by rfl) T.g_pick T.F_pick.kp T.b_pick (a_cons (x_len (by rfl) T.z_len (r_var 2)) a_nil) n_pick)))).x)))
abbrev N_plan_lots : List Str := ["value", "one", "other"]
theorem sc_plan_lots : FnScope N_plan_lots ["value"] (defScope st_plan_lots) := ⟨rfl, rfl, rfl, by decide +kernel, rfl, by decide +kernel, by decide +kernel⟩
noncomputable def b_plan_lots (rec : List PyData → Option PyData) : MS := (sSeq (sIf (tAn (tX (mIsi "int" (mVar 0))) (tNo (tX (mIsi "bool" (mVar 0))))) (sRet (fzL (lLst (lCons (mTup (lCons (mVar 0) lNil)) lNil)))) sNext)
  (sSeq (sIf (tOrr (tNo (tX (mIsi "tuple" (mVar 0)))) (tX (mOp (fEq true) (m1 fLen (rX (mVar 0))) (mC (.int 2))))) (sRet (mC .none)) sNext)
  (sSeq (sParXX 1 2 (mCall rec (lCons (mIx (rX (mVar 0)) (mC (.int 0))) lNil)) (mCall rec (lCons (mIx (rX (mVar 0)) (mC (.int 1))) lNil)))
  (sRet (mIf (tOrr (tX (mIsN false (mVar 1))) (tX (mIsN false (mVar 2)))) (mC .none) (fzL (lCat (rX (fzL (lCat (rX (mVar 1)) (rX (mVar 2))))) (rX (fzL (lLst (lCons (m1 fTuple (rX (fzL (l1 fSortU (rX (mOp fCat (mIx (rX (mVar 1)) (mNeg (mC (.int 1)))) (mIx (rX (mVar 2)) (mNeg (mC (.int 1)))))))))) lNil)))))))))))
noncomputable def m_plan_lots : Nat → List PyData → Option PyData := recP 3 1 b_plan_lots
theorem n_plan_lots (k : Nat) : ∀ ds d, m_plan_lots k ds = some d → ds.length = 1 := recP_n
theorem ok_plan_lots (T : Txt K mg base) (k : Nat) : FnOk P w K mg base CX0 (0 + k + 1) T.f_plan_lots T.d_plan_lots ["value"] (spP 1 (m_plan_lots k)) := by
  refine fn_recP (k0 := 0) T.F_plan_lots sc_plan_lots rfl (fun k rec hk ih hn cdv A outer s H E hr => ?_) k
  exact (s_cons (s_if (w_and (t_val (x_isi (by rfl) T.z_isinstance (by rfl) T.z_int (by decide +kernel) (x_var 0))) (w_and1 (t_not (t_val (x_isi (by rfl) T.z_isinstance (by rfl) T.z_bool (by decide +kernel) (x_var 0)))))).t (s_one (s_ret (l_lst (a_cons (x_tup (a_cons (x_var 0) a_nil)) a_nil)).x)) s_nil)
  (s_cons (s_if (w_or (t_not (t_val (x_isi (by rfl) T.z_isinstance (by rfl) T.z_tuple (by decide +kernel) (x_var 0)))) (w_or1 (t_ne (hu_n hr) (x_len (by rfl) T.z_len (x_var 0).r) x_int))).t (s_one (s_ret x_non)) s_nil)
  (s_cons (s_parXX 1 2 sc_plan_lots.nd (x_call ih (hr.mono (by omega)) (by rfl) T.g_plan_lots T.F_plan_lots.kp T.b_plan_lots (a_cons (x_ix (x_var 0).r x_int) a_nil) hn) (x_call ih (hr.mono (by omega)) (by rfl) T.g_plan_lots T.F_plan_lots.kp T.b_plan_lots (a_cons (x_ix (x_var 0).r x_int) a_nil) hn))
  (s_one (s_ret (x_if (w_or (t_is (x_var 1)) (w_or1 (t_is (x_var 2)))).t x_non (l_cat (l_cat (x_var 1).r (x_var 2).r).x.r (l_lst (a_cons (x_tuple (by rfl) T.z_tuple (l_sortU (hu_n hr) (by rfl) T.z_sorted (x_cat (x_ix (x_var 1).r (x_neg x_int)) (x_ix (x_var 2).r (x_neg x_int))).r).x.r) a_nil)).x.r).x))))))
abbrev N_draw_plan : List Str := ["source", "shires", "rest", "lap", "one"]
theorem sc_draw_plan : FnScope N_draw_plan ["source", "shires"] (defScope st_draw_plan) := ⟨rfl, rfl, rfl, by decide +kernel, rfl, by decide +kernel, by decide +kernel⟩
noncomputable def b_draw_plan : MS := (sSeq (sAsgL 2 (l1 items (rX (mVar 1))))
  (sSeq (sFor (iR1 (mOp fSub (m1 fLen (rX (mVar 1))) (mC (.int 1)))) (bName 3) (sSeq (sAsg (mPopAt 2 (mCallS 0 m_pick (lCons (m1 fLen (rVar 2)) lNil))) (bName 4))
  (sDrop (mApp 2 (mTup (lCons (mVar 4) (lCons (mPopAt 2 (mCallS 0 m_pick (lCons (m1 fLen (rVar 2)) lNil))) lNil)))))))
  (sRet (mIx (rVar 2) (mC (.int 0))))))
noncomputable def m_draw_plan : Gn → List PyData → Option (PyData × Gn) := runS 5 1 b_draw_plan
theorem n_draw_plan : ∀ g ds d, m_draw_plan g ds = some d → ds.length = 1 := fun _ _ _ h => runS_n h
theorem ok_draw_plan (T : Txt K mg base) : FnOk P w K mg base CX0 2 T.f_draw_plan T.d_draw_plan ["source", "shires"] (spS 1 m_draw_plan) := by
  refine fn_s T.F_draw_plan sc_draw_plan rfl fun cdv A outer s H E hr => ?_
  exact (s_cons (s_setL 2 sc_draw_plan.nd (l_list (by rfl) T.z_list (x_var 1).r))
  (s_cons (s_for PassesOwn.never rfl (i_r1 (by rfl) T.z_range (x_sub (x_len (by rfl) T.z_len (x_var 1).r) x_int)) calm_r1 (g_name 3 sc_draw_plan.nd) (s_cons (s_set 4 sc_draw_plan.nd (x_popAt 2 (x_callS 0 (ok_pick T) (hr.mono (by omega)) (by rfl) T.g_pick T.F_pick.kp T.b_pick (a_cons (x_len (by rfl) T.z_len (r_var 2)) a_nil) n_pick)))
  (s_one (s_expr (x_app 2 (x_tup (a_cons (x_var 4) (a_cons (x_popAt 2 (x_callS 0 (ok_pick T) (hr.mono (by omega)) (by rfl) T.g_pick T.F_pick.kp T.b_pick (a_cons (x_len (by rfl) T.z_len (r_var 2)) a_nil) n_pick)) a_nil))))))))
  (s_one (s_ret (x_ix (r_var 2) x_int)))))
abbrev N_formed : List Str := ["plan", "one", "other"]
theorem sc_formed : FnScope N_formed ["plan"] (defScope st_formed) := ⟨rfl, rfl, rfl, by decide +kernel, rfl, by decide +kernel, by decide +kernel⟩
noncomputable def b_formed (rec : List PyData → Option PyData) : MS := (sSeq (sIf (tNo (tX (mIsi "tuple" (mVar 0)))) (sRet (mVar 0)) sNext)
  (sSeq (sParXX 1 2 (mCall rec (lCons (mIx (rX (mVar 0)) (mC (.int 0))) lNil)) (mCall rec (lCons (mIx (rX (mVar 0)) (mC (.int 1))) lNil)))
  (sRet (mIf (tX (mOp fLtT (mIx (rX (mCall (m_plan_lots 50) (lCons (mVar 1) lNil))) (mNeg (mC (.int 1)))) (mIx (rX (mCall (m_plan_lots 50) (lCons (mVar 2) lNil))) (mNeg (mC (.int 1)))))) (mTup (lCons (mVar 1) (lCons (mVar 2) lNil))) (mTup (lCons (mVar 2) (lCons (mVar 1) lNil)))))))
noncomputable def m_formed : Nat → List PyData → Option PyData := recP 3 1 b_formed
theorem n_formed (k : Nat) : ∀ ds d, m_formed k ds = some d → ds.length = 1 := recP_n
theorem ok_formed (T : Txt K mg base) (k : Nat) : FnOk P w K mg base CX0 (51 + k + 1) T.f_formed T.d_formed ["plan"] (spP 1 (m_formed k)) := by
  refine fn_recP (k0 := 51) T.F_formed sc_formed rfl (fun k rec hk ih hn cdv A outer s H E hr => ?_) k
  exact (s_cons (s_if (t_not (t_val (x_isi (by rfl) T.z_isinstance (by rfl) T.z_tuple (by decide +kernel) (x_var 0)))) (s_one (s_ret (x_var 0))) s_nil)
  (s_cons (s_parXX 1 2 sc_formed.nd (x_call ih (hr.mono (by omega)) (by rfl) T.g_formed T.F_formed.kp T.b_formed (a_cons (x_ix (x_var 0).r x_int) a_nil) hn) (x_call ih (hr.mono (by omega)) (by rfl) T.g_formed T.F_formed.kp T.b_formed (a_cons (x_ix (x_var 0).r x_int) a_nil) hn))
  (s_one (s_ret (x_if (t_ltT (hu_0 hr) (x_ix (x_call (ok_plan_lots T 50) (hr.mono (by omega)) (by rfl) T.g_plan_lots T.F_plan_lots.kp T.b_plan_lots (a_cons (x_var 1) a_nil) (n_plan_lots 50)).r (x_neg x_int)) (x_ix (x_call (ok_plan_lots T 50) (hr.mono (by omega)) (by rfl) T.g_plan_lots T.F_plan_lots.kp T.b_plan_lots (a_cons (x_var 2) a_nil) (n_plan_lots 50)).r (x_neg x_int))) (x_tup (a_cons (x_var 1) (a_cons (x_var 2) a_nil))) (x_tup (a_cons (x_var 2) (a_cons (x_var 1) a_nil))))))))
abbrev N_is_lot : List Str := ["n", "value", "one", "other"]
theorem sc_is_lot : FnScope N_is_lot ["n", "value"] (defScope st_is_lot) := ⟨rfl, rfl, rfl, by decide +kernel, rfl, by decide +kernel, by decide +kernel⟩
noncomputable def b_is_lot : MS := (sSeq (sIf (tOrr (tNo (tX (mIsi "tuple" (mVar 1)))) (tX (mOp (fEq false) (mVar 1) (mTup lNil)))) (sRet (mC (.bool false))) sNext)
  (sSeq (sIf (tX (m1 fAny (rX (fzL (lLc (iTp (mVar 1)) (bName 2) tTrue (mOrr (mIsi "bool" (mVar 2)) (mNo (mIsi "int" (mVar 2)))) [2]))))) (sRet (mC (.bool false))) sNext)
  (sRet (mAn (mOp fGe (mIx (rX (mVar 1)) (mC (.int 0))) (mC (.int 0))) (mAn (mOp fLt (mIx (rX (mVar 1)) (mNeg (mC (.int 1)))) (mVar 0)) (m1 fAll (rX (fzL (lLc (iZp (mVar 1) (mSl (rX (mVar 1)) (oX (mC (.int 1))) oNo)) (bTup 2 (bCons (bName 2) (bCons (bName 3) bNil))) tTrue (mOp fLt (mVar 2) (mVar 3)) [2, 3])))))))))
noncomputable def m_is_lot : List PyData → Option PyData := runP 4 2 b_is_lot
theorem n_is_lot : ∀ ds d, m_is_lot ds = some d → ds.length = 2 := fun _ _ h => runP_n h
theorem ok_is_lot (T : Txt K mg base) : FnOk P w K mg base CX0 1 T.f_is_lot T.d_is_lot ["n", "value"] (spP 2 m_is_lot) := by
  refine fn_p T.F_is_lot sc_is_lot rfl fun cdv A outer s H E hr => ?_
  exact (s_cons (s_if (w_or (t_not (t_val (x_isi (by rfl) T.z_isinstance (by rfl) T.z_tuple (by decide +kernel) (x_var 1)))) (w_or1 (t_eq (hu_n hr) (x_var 1) (x_tup a_nil)))).t (s_one (s_ret x_bl)) s_nil)
  (s_cons (s_if (t_val (x_any (by rfl) T.z_any rfl (l_lc [("one", 2)] rfl sc_is_lot.nd (i_tup (x_var 1)) (blkOk_by (N := N_is_lot) (sc := defScope st_is_lot) (by decide +kernel)) (fun _ _ _ _ _ => (g_name 2 sc_is_lot.nd)) (fun _ _ _ _ _ => ts_nil) (fun _ _ _ _ _ => (x_or (x_isi (by rfl) T.z_isinstance (by rfl) T.z_bool (by decide +kernel) (x_var 2)) (x_or1 (x_not (x_isi (by rfl) T.z_isinstance (by rfl) T.z_int (by decide +kernel) (x_var 2))))))).x.r)) (s_one (s_ret x_bl)) s_nil)
  (s_one (s_ret (x_and (x_ge (x_ix (x_var 1).r x_int) x_int) (x_and (x_lt (x_ix (x_var 1).r (x_neg x_int)) (x_var 0)) (x_and1 (x_all (by rfl) T.z_all rfl (l_lc [("one", 2), ("other", 3)] rfl sc_is_lot.nd (i_zip (by rfl) T.z_zip (x_var 1) (x_sl (x_var 1).r (o_x x_int) o_no)) (blkOk_by (N := N_is_lot) (sc := defScope st_is_lot) (by decide +kernel)) (fun _ _ _ _ _ => (g_tup rfl (gs_cons (g_name 2 sc_is_lot.nd) (gs_cons (g_name 3 sc_is_lot.nd) gs_nil)))) (fun _ _ _ _ _ => ts_nil) (fun _ _ _ _ _ => (x_lt (x_var 2) (x_var 3)))).x.r))))))))
abbrev N_cross : List Str := ["one", "other", "shared", "shire"]
theorem sc_cross : FnScope N_cross ["one", "other"] (defScope st_cross) := ⟨rfl, rfl, rfl, by decide +kernel, rfl, by decide +kernel, by decide +kernel⟩
noncomputable def b_cross : MS := (sSeq (sAsg (m1 fLen (rX (fzL (lLc (iTp (mVar 0)) (bName 3) (tX (mIn (fIn false) (mVar 3) (rX (mVar 1)))) (mVar 3) [3])))) (bName 2))
  (sRet (mCh fLt fLt (mC (.int 0)) (mVar 2) (mmin2 (m1 fLen (rX (mVar 0))) (m1 fLen (rX (mVar 1)))))))
noncomputable def m_cross : List PyData → Option PyData := runP 4 2 b_cross
theorem n_cross : ∀ ds d, m_cross ds = some d → ds.length = 2 := fun _ _ h => runP_n h
theorem ok_cross (T : Txt K mg base) : FnOk P w K mg base CX0 1 T.f_cross T.d_cross ["one", "other"] (spP 2 m_cross) := by
  refine fn_p T.F_cross sc_cross rfl fun cdv A outer s H E hr => ?_
  exact (s_cons (s_set 2 sc_cross.nd (x_len (by rfl) T.z_len (l_lc [("shire", 3)] rfl sc_cross.nd (i_tup (x_var 0)) (blkOk_by (N := N_cross) (sc := defScope st_cross) (by decide +kernel)) (fun _ _ _ _ _ => (g_name 3 sc_cross.nd)) (fun _ _ _ _ _ => (ts_one (t_in (x_var 3) (x_var 1).r))) (fun _ _ _ _ _ => (x_var 3))).x.r))
  (s_one (s_ret (x_chain op_lt op_lt opd_lt opd_lt x_int (x_var 2) (x_min2 (by rfl) T.z_min rfl (x_len (by rfl) T.z_len (x_var 0).r) (x_len (by rfl) T.z_len (x_var 1).r))))))
abbrev N_lots_fault : List Str := ["n", "value", "i", "one", "crossing", "j", "other", "lot"]
theorem sc_lots_fault : FnScope N_lots_fault ["n", "value"] (defScope st_lots_fault) := ⟨rfl, rfl, rfl, by decide +kernel, rfl, by decide +kernel, by decide +kernel⟩
noncomputable def b_lots_fault : MS := (sSeq (sIf (tOrr (tNo (tX (mIsi "tuple" (mVar 1)))) (tNo (tX (m1 fAll (rX (fzL (lLc (iTp (mVar 1)) (bName 7) tTrue (mCall m_is_lot (lCons (mVar 0) (lCons (mVar 7) lNil))) [7]))))))) (sRet (mTup (lCons (mC (.str "form")) lNil))) sNext)
  (sSeq (sIf (tNo (tX (m1 fAll (rX (fzL (lLc (iZp (mVar 1) (mSl (rX (mVar 1)) (oX (mC (.int 1))) oNo)) (bTup 2 (bCons (bName 3) (bCons (bName 6) bNil))) tTrue (mOp fLtT (mVar 3) (mVar 6)) [3, 6])))))) (sRet (mTup (lCons (mC (.str "form")) lNil))) sNext)
  (sSeq (sFor (iEt (mVar 1)) (bTup 2 (bCons (bName 2) (bCons (bName 3) bNil))) (sSeq (sAsg (fzL (lLc (iR2 (mOp fAdd (mVar 2) (mC (.int 1))) (m1 fLen (rX (mVar 1)))) (bName 5) (tX (mCall m_cross (lCons (mVar 3) (lCons (mIx (rX (mVar 1)) (mVar 5)) lNil)))) (mVar 5) [5])) (bName 4))
  (sIf (tX (mOp (fEq true) (mVar 4) (fzL (lLst lNil)))) (sRet (mTup (lCons (mC (.str "cross")) (lCons (mVar 2) (lCons (mIx (rX (mVar 4)) (mC (.int 0))) lNil))))) sNext)))
  (sRet (mIf (tX (mOp (fEq false) (m1 fLen (rX (mVar 1))) (mOp fSub (mOp fMul (mC (.int 2)) (mVar 0)) (mC (.int 1))))) (mC .none) (mTup (lCons (mC (.str "many")) (lCons (m1 fLen (rX (mVar 1))) lNil))))))))
noncomputable def m_lots_fault : List PyData → Option PyData := runP 8 2 b_lots_fault
theorem n_lots_fault : ∀ ds d, m_lots_fault ds = some d → ds.length = 2 := fun _ _ h => runP_n h
theorem ok_lots_fault (T : Txt K mg base) : FnOk P w K mg base CX0 2 T.f_lots_fault T.d_lots_fault ["n", "value"] (spP 2 m_lots_fault) := by
  refine fn_p T.F_lots_fault sc_lots_fault rfl fun cdv A outer s H E hr => ?_
  exact (s_cons (s_if (w_or (t_not (t_val (x_isi (by rfl) T.z_isinstance (by rfl) T.z_tuple (by decide +kernel) (x_var 1)))) (w_or1 (t_not (t_val (x_all (by rfl) T.z_all rfl (l_lc [("lot", 7)] rfl sc_lots_fault.nd (i_tup (x_var 1)) (blkOk_by (N := N_lots_fault) (sc := defScope st_lots_fault) (by decide +kernel)) (fun _ _ _ _ _ => (g_name 7 sc_lots_fault.nd)) (fun _ _ _ _ _ => ts_nil) (fun _ _ _ _ _ => (x_call (ok_is_lot T) (hr.mono (by omega)) (by rfl) T.g_is_lot T.F_is_lot.kp T.b_is_lot (a_cons (x_var 0) (a_cons (x_var 7) a_nil)) n_is_lot))).x.r))))).t (s_one (s_ret (x_tup (a_cons x_str a_nil)))) s_nil)
  (s_cons (s_if (t_not (t_val (x_all (by rfl) T.z_all rfl (l_lc [("one", 3), ("other", 6)] rfl sc_lots_fault.nd (i_zip (by rfl) T.z_zip (x_var 1) (x_sl (x_var 1).r (o_x x_int) o_no)) (blkOk_by (N := N_lots_fault) (sc := defScope st_lots_fault) (by decide +kernel)) (fun _ _ _ _ _ => (g_tup rfl (gs_cons (g_name 3 sc_lots_fault.nd) (gs_cons (g_name 6 sc_lots_fault.nd) gs_nil)))) (fun _ _ _ _ _ => ts_nil) (fun _ _ _ _ _ => (x_ltT (hu_0 hr) (x_var 3) (x_var 6)))).x.r))) (s_one (s_ret (x_tup (a_cons x_str a_nil)))) s_nil)
  (s_cons (s_for PassesOwn.never rfl (i_enumT (by rfl) T.z_enumerate (x_var 1)) calm_et (g_tup rfl (gs_cons (g_name 2 sc_lots_fault.nd) (gs_cons (g_name 3 sc_lots_fault.nd) gs_nil))) (s_cons (s_setLc 4 [("j", 5)] rfl sc_lots_fault.nd (i_r2 (by rfl) T.z_range (x_add (x_var 2) x_int) (x_len (by rfl) T.z_len (x_var 1).r)) (blkOk_by (N := N_lots_fault) (sc := defScope st_lots_fault) (by decide +kernel)) (fun _ _ _ _ _ => (g_name 5 sc_lots_fault.nd)) (fun _ _ _ _ _ => (ts_one (t_val (x_call (ok_cross T) (hr.mono (by omega)) (by rfl) T.g_cross T.F_cross.kp T.b_cross (a_cons (x_var 3) (a_cons (x_ix (x_var 1).r (x_var 5)) a_nil)) n_cross)))) (fun _ _ _ _ _ => (x_var 5)))
  (s_one (s_if (t_ne (hu_n hr) (x_var 4) (l_lst a_nil).x) (s_one (s_ret (x_tup (a_cons x_str (a_cons (x_var 2) (a_cons (x_ix (x_var 4).r x_int) a_nil)))))) s_nil))))
  (s_one (s_ret (x_if (t_eq (hu_n hr) (x_len (by rfl) T.z_len (x_var 1).r) (x_sub (x_mul x_int (x_var 0)) x_int)) x_non (x_tup (a_cons x_str (a_cons (x_len (by rfl) T.z_len (x_var 1).r) a_nil)))))))))
abbrev N_plan_by : List Str := ["lots", "found", "lot", "within", "plan", "late"]
theorem sc_plan_by : FnScope N_plan_by ["lots"] (defScope st_plan_by) := ⟨rfl, rfl, rfl, by decide +kernel, rfl, by decide +kernel, by decide +kernel⟩
noncomputable def b_plan_by : MS := (sSeq (sNewT 1)
  (sSeq (sFor (iLs (fzL (l1 fSortKey (rX (mVar 0))))) (bName 2) (sSeq (sAsg (fzL (lLc (iLs (fzL (l1 fSortT (rX (fzL (lKeysT 1)))))) (bName 5) (tX (mIn (fIn false) (mIx (rX (mVar 5)) (mC (.int 0))) (rX (mVar 2)))) (mVar 5) [5])) (bName 3))
  (sSeq (sAsg (mIf (tX (mOp (fEq false) (mVar 3) (fzL (lLst lNil)))) (mIx (rX (mVar 2)) (mC (.int 0))) (mTup (lCons (mDGet 1 (mIx (rX (mVar 3)) (mC (.int 0)))) (lCons (mDGet 1 (mIx (rX (mVar 3)) (mC (.int 1)))) lNil)))) (bName 4))
  (sSeq (sFor (iLs (mVar 3)) (bName 5) (sDrop (mDPop 1 (mVar 5))))
  (sDPt 1 (mVar 2) (mVar 4))))))
  (sRet (mIx (rX (fzL (lValsT 1))) (mC (.int 0))))))
noncomputable def m_plan_by : List PyData → Option PyData := runP 6 1 b_plan_by
theorem n_plan_by : ∀ ds d, m_plan_by ds = some d → ds.length = 1 := fun _ _ h => runP_n h
theorem ok_plan_by (T : Txt K mg base) : FnOk P w K mg base CX0 1 T.f_plan_by T.d_plan_by ["lots"] (spP 1 m_plan_by) := by
  refine fn_pL T.F_plan_by sc_plan_by rfl T.L_plan_by (fun _ _ _ _ _ _ => rfl) fun cdv A outer s H E hr LT => ?_
  exact (s_cons (s_newT 1 sc_plan_by.nd)
  (s_cons (s_for PassesOwn.never rfl (i_list (l_sortK hr LT ⟨rfl, rfl, rfl, by decide +kernel, by decide +kernel, rfl, rfl, fun _ _ _ _ _ _ => rfl, by decide⟩ T.z_len (by rfl) T.z_sorted (x_var 0).r).x) calm_ls (g_name 2 sc_plan_by.nd) (s_cons (s_setLc 3 [("late", 5)] rfl sc_plan_by.nd (i_list (l_sortT (hu_n hr) (by rfl) T.z_sorted (l_keysT 1 (by rfl) T.z_list rfl).x.r).x) (blkOk_by (N := N_plan_by) (sc := defScope st_plan_by) (by decide +kernel)) (fun _ _ _ _ _ => (g_name 5 sc_plan_by.nd)) (fun _ _ _ _ _ => (ts_one (t_in (x_ix (x_var 5).r x_int) (x_var 2).r))) (fun _ _ _ _ _ => (x_var 5)))
  (s_cons (s_set 4 sc_plan_by.nd (x_if (t_eq (hu_n hr) (x_var 3) (l_lst a_nil).x) (x_ix (x_var 2).r x_int) (x_tup (a_cons (x_dget 1 (hu_n hr) (x_ix (x_var 3).r x_int)) (a_cons (x_dget 1 (hu_n hr) (x_ix (x_var 3).r x_int)) a_nil)))))
  (s_cons (s_for PassesOwn.never rfl (i_list (x_var 3)) calm_ls (g_name 5 sc_plan_by.nd) (s_one (s_expr (x_dpop 1 (hu_n hr) (x_var 5)))))
  (s_one (s_dput 1 (hu_n hr) (x_var 2) (x_var 4)))))))
  (s_one (s_ret (x_ix (l_vals 1 rfl (by rfl) T.z_list).x.r x_int)))))
abbrev N_all_lots : List Str := ["n", "found", "shire", "lot"]
theorem sc_all_lots : FnScope N_all_lots ["n"] (defScope st_all_lots) := ⟨rfl, rfl, rfl, by decide +kernel, rfl, by decide +kernel, by decide +kernel⟩
noncomputable def b_all_lots : MS := (sSeq (sAsg (fzL (lLst (lCons (mTup lNil) lNil))) (bName 1))
  (sSeq (sFor (iR1 (mVar 0)) (bName 2) (sAsg (fzL (lCat (rX (mVar 1)) (rX (fzL (lLc (iLs (mVar 1)) (bName 3) tTrue (mOp fCat (mVar 3) (mTup (lCons (mVar 2) lNil))) [3]))))) (bName 1)))
  (sRet (fzL (lSl (rX (mVar 1)) (oX (mC (.int 1))) oNo)))))
noncomputable def m_all_lots : List PyData → Option PyData := runP 4 1 b_all_lots
theorem n_all_lots : ∀ ds d, m_all_lots ds = some d → ds.length = 1 := fun _ _ h => runP_n h
theorem ok_all_lots (T : Txt K mg base) : FnOk P w K mg base CX0 1 T.f_all_lots T.d_all_lots ["n"] (spP 1 m_all_lots) := by
  refine fn_p T.F_all_lots sc_all_lots rfl fun cdv A outer s H E hr => ?_
  exact (s_cons (s_set 1 sc_all_lots.nd (l_lst (a_cons (x_tup a_nil) a_nil)).x)
  (s_cons (s_for PassesOwn.never rfl (i_r1 (by rfl) T.z_range (x_var 0)) calm_r1 (g_name 2 sc_all_lots.nd) (s_one (s_set 1 sc_all_lots.nd (l_cat (x_var 1).r (l_lc [("lot", 3)] rfl sc_all_lots.nd (i_list (x_var 1)) (blkOk_by (N := N_all_lots) (sc := defScope st_all_lots) (by decide +kernel)) (fun _ _ _ _ _ => (g_name 3 sc_all_lots.nd)) (fun _ _ _ _ _ => ts_nil) (fun _ _ _ _ _ => (x_cat (x_var 3) (x_tup (a_cons (x_var 2) a_nil))))).x.r).x)))
  (s_one (s_ret (l_sl (x_var 1).r (o_x x_int) o_no).x))))
abbrev N_grown_right : List Str := ["source", "n", "found", "lot", "some", "due", "lots", "plan", "one"]
theorem sc_grown_right : FnScope N_grown_right ["source", "n"] (defScope st_grown_right) := ⟨rfl, rfl, rfl, by decide +kernel, rfl, by decide +kernel, by decide +kernel⟩
noncomputable def b_grown_right : MS := (sSeq (sAsgL 2 (lLst lNil))
  (sSeq (sFor (iLs (mCallS 0 m_any_order (lCons (mCall m_all_lots (lCons (mVar 1) lNil)) lNil))) (bName 3) (sIf (tNo (tX (m1 fAny (rX (fzL (lLc (iLo 2) (bName 8) tTrue (mCall m_cross (lCons (mVar 3) (lCons (mVar 8) lNil))) [8])))))) (sSeq (sDrop (mApp 2 (mVar 3)))
  (sSeq (sAsg (m1 fTuple (rX (fzL (l1 fSortT (rVar 2))))) (bName 4))
  (sSeq (sAsg (mIf (tX (mOp (fEq false) (m1 fLen (rVar 2)) (mOp fSub (mOp fMul (mC (.int 2)) (mVar 1)) (mC (.int 1))))) (mC .none) (mTup (lCons (mC (.str "many")) (lCons (m1 fLen (rVar 2)) lNil)))) (bName 5))
  (sIf (tOrr (tX (mOp fGt (m1 fLen (rVar 2)) (mOp fSub (mOp fMul (mC (.int 2)) (mVar 1)) (mC (.int 1))))) (tX (mOp (fEq true) (mCall m_p_judge_lots (lCons (mVar 1) (lCons (mVar 4) lNil))) (mVar 5)))) (sRet (mC (.bool false))) sNext)))) sNext))
  (sSeq (sAsg (m1 fTuple (rX (fzL (l1 fSortT (rVar 2))))) (bName 6))
  (sSeq (sAsg (mCall m_p_plan_of (lCons (mVar 1) (lCons (mVar 6) lNil))) (bName 7))
  (sRet (mAn (mOp (fEq false) (m1 fLen (rX (mVar 6))) (mOp fSub (mOp fMul (mC (.int 2)) (mVar 1)) (mC (.int 1)))) (mAn (mOp (fEq false) (mCall m_p_lots_of (lCons (mVar 7) lNil)) (mVar 6)) (mAn (mOp (fEq false) (mCall m_p_formed (lCons (mVar 7) lNil)) (mVar 7)) (mOp (fEq false) (mVar 7) (mCall m_plan_by (lCons (mVar 6) lNil)))))))))))
noncomputable def m_grown_right : Gn → List PyData → Option (PyData × Gn) := runS 9 1 b_grown_right
theorem n_grown_right : ∀ g ds d, m_grown_right g ds = some d → ds.length = 1 := fun _ _ _ h => runS_n h
theorem ok_grown_right (T : Txt K mg base) : FnOk P w K mg base CX0 5 T.f_grown_right T.d_grown_right ["source", "n"] (spS 1 m_grown_right) := by
  refine fn_s T.F_grown_right sc_grown_right rfl fun cdv A outer s H E hr => ?_
  exact (s_cons (s_setL 2 sc_grown_right.nd (l_lst a_nil))
  (s_cons (s_for PassesOwn.never rfl (i_list (x_callS 0 (ok_any_order T) (hr.mono (by omega)) (by rfl) T.g_any_order T.F_any_order.kp T.b_any_order (a_cons (x_call (ok_all_lots T) (hr.mono (by omega)) (by rfl) T.g_all_lots T.F_all_lots.kp T.b_all_lots (a_cons (x_var 1) a_nil) n_all_lots) a_nil) n_any_order)) calm_ls (g_name 3 sc_grown_right.nd) (s_one (s_if (t_not (t_val (x_any (by rfl) T.z_any rfl (l_lc [("one", 8)] rfl sc_grown_right.nd (i_lo 2) (blkOk_by (N := N_grown_right) (sc := defScope st_grown_right) (by decide +kernel)) (fun _ _ _ _ _ => (g_name 8 sc_grown_right.nd)) (fun _ _ _ _ _ => ts_nil) (fun _ _ _ _ _ => (x_call (ok_cross T) (hr.mono (by omega)) (by rfl) T.g_cross T.F_cross.kp T.b_cross (a_cons (x_var 3) (a_cons (x_var 8) a_nil)) n_cross))).x.r))) (s_cons (s_expr (x_app 2 (x_var 3)))
  (s_cons (s_set 4 sc_grown_right.nd (x_tuple (by rfl) T.z_tuple (l_sortT (hu_n hr) (by rfl) T.z_sorted (r_var 2)).x.r))
  (s_cons (s_set 5 sc_grown_right.nd (x_if (t_eq (hu_n hr) (x_len (by rfl) T.z_len (r_var 2)) (x_sub (x_mul x_int (x_var 1)) x_int)) x_non (x_tup (a_cons x_str (a_cons (x_len (by rfl) T.z_len (r_var 2)) a_nil)))))
  (s_one (s_if (w_or (t_gt (x_len (by rfl) T.z_len (r_var 2)) (x_sub (x_mul x_int (x_var 1)) x_int)) (w_or1 (t_ne (hu_n hr) (x_call (ok_p_judge_lots T) (hr.mono (by omega)) (by rfl) T.g_p_judge_lots T.F_p_judge_lots.kp T.b_p_judge_lots (a_cons (x_var 1) (a_cons (x_var 4) a_nil)) n_p_judge_lots) (x_var 5)))).t (s_one (s_ret x_bl)) s_nil))))) s_nil)))
  (s_cons (s_set 6 sc_grown_right.nd (x_tuple (by rfl) T.z_tuple (l_sortT (hu_n hr) (by rfl) T.z_sorted (r_var 2)).x.r))
  (s_cons (s_set 7 sc_grown_right.nd (x_call (ok_p_plan_of T) (hr.mono (by omega)) (by rfl) T.g_p_plan_of T.F_p_plan_of.kp T.b_p_plan_of (a_cons (x_var 1) (a_cons (x_var 6) a_nil)) n_p_plan_of))
  (s_one (s_ret (x_and (x_eq (hu_n hr) (x_len (by rfl) T.z_len (x_var 6).r) (x_sub (x_mul x_int (x_var 1)) x_int)) (x_and (x_eq (hu_n hr) (x_call (ok_p_lots_of T) (hr.mono (by omega)) (by rfl) T.g_p_lots_of T.F_p_lots_of.kp T.b_p_lots_of (a_cons (x_var 7) a_nil) n_p_lots_of) (x_var 6)) (x_and (x_eq (hu_n hr) (x_call (ok_p_formed T) (hr.mono (by omega)) (by rfl) T.g_p_formed T.F_p_formed.kp T.b_p_formed (a_cons (x_var 7) a_nil) n_p_formed) (x_var 7)) (x_and1 (x_eq (hu_n hr) (x_var 7) (x_call (ok_plan_by T) (hr.mono (by omega)) (by rfl) T.g_plan_by T.F_plan_by.kp T.b_plan_by (a_cons (x_var 6) a_nil) n_plan_by))))))))))))
abbrev N_turned : List Str := ["source", "plan", "one", "other"]
theorem sc_turned : FnScope N_turned ["source", "plan"] (defScope st_turned) := ⟨rfl, rfl, rfl, by decide +kernel, rfl, by decide +kernel, by decide +kernel⟩
noncomputable def b_turned (rec : Gn → List PyData → Option (PyData × Gn)) : MS := (sSeq (sIf (tNo (tX (mIsi "tuple" (mVar 1)))) (sRet (mVar 1)) sNext)
  (sSeq (sParXX 2 3 (mCallS 0 rec (lCons (mIx (rX (mVar 1)) (mC (.int 0))) lNil)) (mCallS 0 rec (lCons (mIx (rX (mVar 1)) (mC (.int 1))) lNil)))
  (sRet (mIf (tX (mOp (fEq false) (mCallS 0 m_pick (lCons (mC (.int 2)) lNil)) (mC (.int 0)))) (mTup (lCons (mVar 2) (lCons (mVar 3) lNil))) (mTup (lCons (mVar 3) (lCons (mVar 2) lNil)))))))
noncomputable def m_turned : Nat → Gn → List PyData → Option (PyData × Gn) := recS 4 1 b_turned
theorem n_turned (k : Nat) : ∀ g ds d, m_turned k g ds = some d → ds.length = 1 := recS_n
theorem ok_turned (T : Txt K mg base) (k : Nat) : FnOk P w K mg base CX0 (1 + k + 1) T.f_turned T.d_turned ["source", "plan"] (spS 1 (m_turned k)) := by
  refine fn_recS (k0 := 1) T.F_turned sc_turned rfl (fun k rec hk ih hn cdv A outer s H E hr => ?_) k
  exact (s_cons (s_if (t_not (t_val (x_isi (by rfl) T.z_isinstance (by rfl) T.z_tuple (by decide +kernel) (x_var 1)))) (s_one (s_ret (x_var 1))) s_nil)
  (s_cons (s_parXX 2 3 sc_turned.nd (x_callS 0 ih (hr.mono (by omega)) (by rfl) T.g_turned T.F_turned.kp T.b_turned (a_cons (x_ix (x_var 1).r x_int) a_nil) hn) (x_callS 0 ih (hr.mono (by omega)) (by rfl) T.g_turned T.F_turned.kp T.b_turned (a_cons (x_ix (x_var 1).r x_int) a_nil) hn))
  (s_one (s_ret (x_if (t_eq (hu_n hr) (x_callS 0 (ok_pick T) (hr.mono (by omega)) (by rfl) T.g_pick T.F_pick.kp T.b_pick (a_cons x_int a_nil) n_pick) x_int) (x_tup (a_cons (x_var 2) (a_cons (x_var 3) a_nil))) (x_tup (a_cons (x_var 3) (a_cons (x_var 2) a_nil))))))))
abbrev N_two_right : List Str := ["source", "n", "one", "other", "told", "mixed", "some", "value", "lots", "plan", "lot"]
theorem sc_two_right : FnScope N_two_right ["source", "n"] (defScope st_two_right) := ⟨rfl, rfl, rfl, by decide +kernel, rfl, by decide +kernel, by decide +kernel⟩
noncomputable def b_two_right : MS := (sSeq (sAsg (mCallS 0 m_draw_plan (lCons (fzL (lRg (rg1 (mVar 1)))) lNil)) (bName 2))
  (sSeq (sAsg (mIf (tX (mOp (fEq false) (mCallS 0 m_pick (lCons (mC (.int 2)) lNil)) (mC (.int 0)))) (mCallS 0 m_draw_plan (lCons (fzL (lRg (rg1 (mVar 1)))) lNil)) (mCallS 0 (m_turned 50) (lCons (mVar 2) lNil))) (bName 3))
  (sSeq (sAsg (fzL (lLst (lCons (mCall m_p_lots_of (lCons (mVar 2) lNil)) (lCons (mCall m_p_lots_of (lCons (mVar 3) lNil)) lNil)))) (bName 4))
  (sSeq (sIf (tX (mOp (fEq true) (fzL (lLc (iLs (mVar 4)) (bName 8) tTrue (fzL (l1 items (rX (mVar 8)))) [8])) (fzL (lLc (iTp (mTup (lCons (mVar 2) (lCons (mVar 3) lNil)))) (bName 9) tTrue (fzL (l1 fSortT (rX (mCall (m_plan_lots 50) (lCons (mVar 9) lNil))))) [9])))) (sRet (mC (.bool false))) sNext)
  (sSeq (sIf (tOrr (tX (mOp (fEq true) (mOp (fEq false) (mCall m_p_formed (lCons (mVar 2) lNil)) (mCall m_p_formed (lCons (mVar 3) lNil))) (mOp (fEq false) (mIx (rX (mVar 4)) (mC (.int 0))) (mIx (rX (mVar 4)) (mC (.int 1)))))) (tX (mOp (fEq true) (mCall m_p_formed (lCons (mVar 2) lNil)) (mCall (m_formed 50) (lCons (mVar 2) lNil))))) (sRet (mC (.bool false))) sNext)
  (sSeq (sDictT 5 (rX (fzL (lLc (iTp (mOp fCat (mIx (rX (mVar 4)) (mC (.int 0))) (mIx (rX (mVar 4)) (mC (.int 1))))) (bName 10) tTrue (mTup (lCons (mVar 10) (lCons (mC (.int 0)) lNil))) [10]))))
  (sSeq (sAsg (m1 fTuple (rX (fzL (l1 fSortT (rX (fzL (lLcD 5 (bName 10) (tX (mOp fGt (mCallS 0 m_pick (lCons (mC (.int 5)) lNil)) (mC (.int 0)))) (mVar 10) [10]))))))) (bName 6))
  (sSeq (sFor (iTp (mTup (lCons (m1 fTuple (rX (fzL (l1 fSortT (rX (fzL (lKeysT 5))))))) (lCons (mVar 6) (lCons (mOp fCat (mSl (rX (mIx (rX (mVar 4)) (mC (.int 0)))) oNo (oX (mC (.int 1)))) (mSl (rX (mIx (rX (mVar 4)) (mC (.int 1)))) (oX (mC (.int 1))) oNo)) lNil))))) (bName 7) (sIf (tX (mOp (fEq true) (mCall m_p_judge_lots (lCons (mVar 1) (lCons (mVar 7) lNil))) (mCall m_lots_fault (lCons (mVar 1) (lCons (mVar 7) lNil))))) (sRet (mC (.bool false))) sNext))
  (sRet (mOp (fEq false) (fzL (lLc (iLs (mVar 4)) (bName 8) tTrue (mCall m_p_plan_of (lCons (mVar 1) (lCons (mVar 8) lNil))) [8])) (fzL (lLst (lCons (mCall m_p_formed (lCons (mVar 2) lNil)) (lCons (mCall m_p_formed (lCons (mVar 3) lNil)) lNil))))))))))))))
noncomputable def m_two_right : Gn → List PyData → Option (PyData × Gn) := runS 11 1 b_two_right
theorem n_two_right : ∀ g ds d, m_two_right g ds = some d → ds.length = 1 := fun _ _ _ h => runS_n h
theorem ok_two_right (T : Txt K mg base) : FnOk P w K mg base CX0 103 T.f_two_right T.d_two_right ["source", "n"] (spS 1 m_two_right) := by
  refine fn_s T.F_two_right sc_two_right rfl fun cdv A outer s H E hr => ?_
  exact (s_cons (s_set 2 sc_two_right.nd (x_callS 0 (ok_draw_plan T) (hr.mono (by omega)) (by rfl) T.g_draw_plan T.F_draw_plan.kp T.b_draw_plan (a_cons (l_listRg (by rfl) T.z_list rfl (rg_1 (by rfl) T.z_range (x_var 1))).x a_nil) n_draw_plan))
  (s_cons (s_set 3 sc_two_right.nd (x_if (t_eq (hu_n hr) (x_callS 0 (ok_pick T) (hr.mono (by omega)) (by rfl) T.g_pick T.F_pick.kp T.b_pick (a_cons x_int a_nil) n_pick) x_int) (x_callS 0 (ok_draw_plan T) (hr.mono (by omega)) (by rfl) T.g_draw_plan T.F_draw_plan.kp T.b_draw_plan (a_cons (l_listRg (by rfl) T.z_list rfl (rg_1 (by rfl) T.z_range (x_var 1))).x a_nil) n_draw_plan) (x_callS 0 (ok_turned T 50) (hr.mono (by omega)) (by rfl) T.g_turned T.F_turned.kp T.b_turned (a_cons (x_var 2) a_nil) (n_turned 50))))
  (s_cons (s_set 4 sc_two_right.nd (l_lst (a_cons (x_call (ok_p_lots_of T) (hr.mono (by omega)) (by rfl) T.g_p_lots_of T.F_p_lots_of.kp T.b_p_lots_of (a_cons (x_var 2) a_nil) n_p_lots_of) (a_cons (x_call (ok_p_lots_of T) (hr.mono (by omega)) (by rfl) T.g_p_lots_of T.F_p_lots_of.kp T.b_p_lots_of (a_cons (x_var 3) a_nil) n_p_lots_of) a_nil))).x)
  (s_cons (s_if (t_ne (hu_n hr) (l_lc [("lots", 8)] rfl sc_two_right.nd (i_list (x_var 4)) (blkOk_by (N := N_two_right) (sc := defScope st_two_right) (by decide +kernel)) (fun _ _ _ _ _ => (g_name 8 sc_two_right.nd)) (fun _ _ _ _ _ => ts_nil) (fun _ _ _ _ _ => (l_list (by rfl) T.z_list (x_var 8).r).x)).x (l_lc [("plan", 9)] rfl sc_two_right.nd (i_tup (x_tup (a_cons (x_var 2) (a_cons (x_var 3) a_nil)))) (blkOk_by (N := N_two_right) (sc := defScope st_two_right) (by decide +kernel)) (fun _ _ _ _ _ => (g_name 9 sc_two_right.nd)) (fun _ _ _ _ _ => ts_nil) (fun _ _ _ _ _ => (l_sortT (hu_n hr) (by rfl) T.z_sorted (x_call (ok_plan_lots T 50) (hr.mono (by omega)) (by rfl) T.g_plan_lots T.F_plan_lots.kp T.b_plan_lots (a_cons (x_var 9) a_nil) (n_plan_lots 50)).r).x)).x) (s_one (s_ret x_bl)) s_nil)
  (s_cons (s_if (w_or (t_ne (hu_n hr) (x_eq (hu_n hr) (x_call (ok_p_formed T) (hr.mono (by omega)) (by rfl) T.g_p_formed T.F_p_formed.kp T.b_p_formed (a_cons (x_var 2) a_nil) n_p_formed) (x_call (ok_p_formed T) (hr.mono (by omega)) (by rfl) T.g_p_formed T.F_p_formed.kp T.b_p_formed (a_cons (x_var 3) a_nil) n_p_formed)) (x_eq (hu_n hr) (x_ix (x_var 4).r x_int) (x_ix (x_var 4).r x_int))) (w_or1 (t_ne (hu_n hr) (x_call (ok_p_formed T) (hr.mono (by omega)) (by rfl) T.g_p_formed T.F_p_formed.kp T.b_p_formed (a_cons (x_var 2) a_nil) n_p_formed) (x_call (ok_formed T 50) (hr.mono (by omega)) (by rfl) T.g_formed T.F_formed.kp T.b_formed (a_cons (x_var 2) a_nil) (n_formed 50))))).t (s_one (s_ret x_bl)) s_nil)
  (s_cons (s_dictT 5 sc_two_right.nd rfl (hu_n hr) (by rfl) T.z_dict (l_lc [("lot", 10)] rfl sc_two_right.nd (i_tup (x_cat (x_ix (x_var 4).r x_int) (x_ix (x_var 4).r x_int))) (blkOk_by (N := N_two_right) (sc := defScope st_two_right) (by decide +kernel)) (fun _ _ _ _ _ => (g_name 10 sc_two_right.nd)) (fun _ _ _ _ _ => ts_nil) (fun _ _ _ _ _ => (x_tup (a_cons (x_var 10) (a_cons x_int a_nil))))).x.r)
  (s_cons (s_set 6 sc_two_right.nd (x_tuple (by rfl) T.z_tuple (l_sortT (hu_n hr) (by rfl) T.z_sorted (l_lcD 5 [("lot", 10)] rfl sc_two_right.nd (blkOk_by (N := N_two_right) (sc := defScope st_two_right) (by decide +kernel)) (fun _ _ _ _ _ => (g_name 10 sc_two_right.nd)) (fun _ _ _ _ _ => (ts_one (t_gt (x_callS 0 (ok_pick T) (hr.mono (by omega)) (by rfl) T.g_pick T.F_pick.kp T.b_pick (a_cons x_int a_nil) n_pick) x_int))) (fun _ _ _ _ _ => (x_var 10))).x.r).x.r))
  (s_cons (s_for PassesOwn.never rfl (i_tup (x_tup (a_cons (x_tuple (by rfl) T.z_tuple (l_sortT (hu_n hr) (by rfl) T.z_sorted (l_keysT 5 (by rfl) T.z_list rfl).x.r).x.r) (a_cons (x_var 6) (a_cons (x_cat (x_sl (x_ix (x_var 4).r x_int).r o_no (o_x x_int)) (x_sl (x_ix (x_var 4).r x_int).r (o_x x_int) o_no)) a_nil))))) calm_tp (g_name 7 sc_two_right.nd) (s_one (s_if (t_ne (hu_n hr) (x_call (ok_p_judge_lots T) (hr.mono (by omega)) (by rfl) T.g_p_judge_lots T.F_p_judge_lots.kp T.b_p_judge_lots (a_cons (x_var 1) (a_cons (x_var 7) a_nil)) n_p_judge_lots) (x_call (ok_lots_fault T) (hr.mono (by omega)) (by rfl) T.g_lots_fault T.F_lots_fault.kp T.b_lots_fault (a_cons (x_var 1) (a_cons (x_var 7) a_nil)) n_lots_fault)) (s_one (s_ret x_bl)) s_nil)))
  (s_one (s_ret (x_eq (hu_n hr) (l_lc [("lots", 8)] rfl sc_two_right.nd (i_list (x_var 4)) (blkOk_by (N := N_two_right) (sc := defScope st_two_right) (by decide +kernel)) (fun _ _ _ _ _ => (g_name 8 sc_two_right.nd)) (fun _ _ _ _ _ => ts_nil) (fun _ _ _ _ _ => (x_call (ok_p_plan_of T) (hr.mono (by omega)) (by rfl) T.g_p_plan_of T.F_p_plan_of.kp T.b_p_plan_of (a_cons (x_var 1) (a_cons (x_var 8) a_nil)) n_p_plan_of))).x (l_lst (a_cons (x_call (ok_p_formed T) (hr.mono (by omega)) (by rfl) T.g_p_formed T.F_p_formed.kp T.b_p_formed (a_cons (x_var 2) a_nil) n_p_formed) (a_cons (x_call (ok_p_formed T) (hr.mono (by omega)) (by rfl) T.g_p_formed T.F_p_formed.kp T.b_p_formed (a_cons (x_var 3) a_nil) n_p_formed) a_nil))).x)))))))))))
abbrev N_law : List Str := ["script", "source", "lap"]
theorem sc_law : FnScope N_law ["script"] (defScope st_law) := ⟨rfl, rfl, rfl, by decide +kernel, rfl, by decide +kernel, by decide +kernel⟩
noncomputable def b_law : MS := (sSeq (sFor (iR1 (mC (.int 2))) (bName 2) (sIf (tNo (tX (mCallS 1 m_grown_right (lCons (mOp fAdd (mC (.int 2)) (mCallS 1 m_pick (lCons (mC (.int 4)) lNil))) lNil)))) (sRet (mC (.bool false))) sNext))
  (sSeq (sFor (iR1 (mC (.int 3))) (bName 2) (sIf (tNo (tX (mCallS 1 m_two_right (lCons (mOp fAdd (mC (.int 1)) (mCallS 1 m_pick (lCons (mC (.int 9)) lNil))) lNil)))) (sRet (mC (.bool false))) sNext))
  (sRet (mC (.bool true)))))
theorem ok_law (T : Txt K mg base) (hok : LawOk 1 b_law) : FnOk P w K mg base CX0 104 T.f_law T.d_law ["script"] (spLaw K) := by
  refine fn_law T.F_law sc_law rfl hok fun cdv A outer s H E hr => ?_
  obtain ⟨t, h1, h2⟩ : PSx (cxOf CX0 P w K mg base N_law "law" (defScope st_law) T.f_law cdv A outer s H E).nox ((defBody st_law).drop 1) b_law := (s_cons (s_for PassesOwn.never rfl (i_r1 (by rfl) T.z_range x_int) calm_r1 (g_name 2 sc_law.nd) (s_one (s_if (t_not (t_val (x_callS 1 (ok_grown_right T) (hr.mono (by omega)) (by rfl) T.g_grown_right T.F_grown_right.kp T.b_grown_right (a_cons (x_add x_int (x_callS 1 (ok_pick T) (hr.mono (by omega)) (by rfl) T.g_pick T.F_pick.kp T.b_pick (a_cons x_int a_nil) n_pick)) a_nil) n_grown_right))) (s_one (s_ret x_bl)) s_nil)))
  (s_cons (s_for PassesOwn.never rfl (i_r1 (by rfl) T.z_range x_int) calm_r1 (g_name 2 sc_law.nd) (s_one (s_if (t_not (t_val (x_callS 1 (ok_two_right T) (hr.mono (by omega)) (by rfl) T.g_two_right T.F_two_right.kp T.b_two_right (a_cons (x_add x_int (x_callS 1 (ok_pick T) (hr.mono (by omega)) (by rfl) T.g_pick T.F_pick.kp T.b_pick (a_cons x_int a_nil) n_pick)) a_nil) n_two_right))) (s_one (s_ret x_bl)) s_nil)))
  (s_one (s_ret x_bl))))
  exact ⟨t, _, pss_cons (ps_set (i := 1) sc_law.nd rfl (.inl rfl) (pe_call (ok_open_cells T) (hr.mono (by omega)) (by rfl) T.g_open_cells T.F_open_cells.kp T.b_open_cells .nil pass0 (pa_cons (pv 0) pa_nil))) h1, h2⟩
end
end Tst


namespace Tst
open PySem PySem.Spec PyProof.Rows L2 MM
variable [Tb]
set_option maxHeartbeats 0 in
theorem all_mk {l : PySem.W.OpenLaw} {w : World} {K : PySem.W.Frag} {h : Heap} {mg : Str → Option Value} {fa f_p_is_number f_p_mask_of f_p_is_lot f_p_leaves f_p_shires_of f_p_parted f_p_lots_of f_p_plan_by_lots f_p_formed f_p_cross f_p_first_cross f_p_judge_lots f_p_plan_of f_open_cells f_pick f_any_order f_plan_lots f_draw_plan f_formed f_is_lot f_cross f_lots_fault f_plan_by f_all_lots f_grown_right f_turned f_two_right f_law : Addr} (X : K.In h) (G : h.Ns mainGlobals mg) (hfa : mg "law" = some (.ref fa)) (hok : LawOk 1 b_law)
    {od_p_is_number an_p_is_number od_p_mask_of an_p_mask_of od_p_is_lot an_p_is_lot od_p_leaves an_p_leaves od_p_shires_of an_p_shires_of od_p_parted an_p_parted od_p_lots_of an_p_lots_of od_p_plan_by_lots an_p_plan_by_lots od_p_formed an_p_formed od_p_cross an_p_cross od_p_first_cross an_p_first_cross od_p_judge_lots an_p_judge_lots od_p_plan_of an_p_plan_of od_open_cells an_open_cells od_pick an_pick od_any_order an_any_order od_plan_lots an_plan_lots od_draw_plan an_draw_plan od_formed an_formed od_is_lot an_is_lot od_cross an_cross od_lots_fault an_lots_fault od_plan_by an_plan_by od_all_lots an_all_lots od_grown_right an_grown_right od_turned an_turned od_two_right an_two_right od_law an_law : Option Addr} {sl_p_is_number sl_p_mask_of sl_p_is_lot sl_p_leaves sl_p_shires_of sl_p_parted sl_p_lots_of sl_p_plan_by_lots sl_p_formed sl_p_cross sl_p_first_cross sl_p_judge_lots sl_p_plan_of sl_open_cells sl_pick sl_any_order sl_plan_lots sl_draw_plan sl_formed sl_is_lot sl_cross sl_lots_fault sl_plan_by sl_all_lots sl_grown_right sl_turned sl_two_right sl_law : Array (Option Value)} {oc_p_is_number kV_p_is_number dc_p_is_number pm_p_is_number cd_p_is_number ct_p_is_number oc_p_mask_of kV_p_mask_of dc_p_mask_of pm_p_mask_of cd_p_mask_of ct_p_mask_of oc_p_is_lot kV_p_is_lot dc_p_is_lot pm_p_is_lot cd_p_is_lot ct_p_is_lot oc_p_leaves kV_p_leaves dc_p_leaves pm_p_leaves cd_p_leaves ct_p_leaves oc_p_shires_of kV_p_shires_of dc_p_shires_of pm_p_shires_of cd_p_shires_of ct_p_shires_of oc_p_parted kV_p_parted dc_p_parted pm_p_parted cd_p_parted ct_p_parted oc_p_lots_of kV_p_lots_of dc_p_lots_of pm_p_lots_of cd_p_lots_of ct_p_lots_of oc_p_plan_by_lots kV_p_plan_by_lots dc_p_plan_by_lots pm_p_plan_by_lots cd_p_plan_by_lots ct_p_plan_by_lots oc_p_formed kV_p_formed dc_p_formed pm_p_formed cd_p_formed ct_p_formed oc_p_cross kV_p_cross dc_p_cross pm_p_cross cd_p_cross ct_p_cross oc_p_first_cross kV_p_first_cross dc_p_first_cross pm_p_first_cross cd_p_first_cross ct_p_first_cross oc_p_judge_lots kV_p_judge_lots dc_p_judge_lots pm_p_judge_lots cd_p_judge_lots ct_p_judge_lots oc_p_plan_of kV_p_plan_of dc_p_plan_of pm_p_plan_of cd_p_plan_of ct_p_plan_of oc_open_cells kV_open_cells dc_open_cells pm_open_cells cd_open_cells ct_open_cells oc_pick kV_pick dc_pick pm_pick cd_pick ct_pick oc_any_order kV_any_order dc_any_order pm_any_order cd_any_order ct_any_order oc_plan_lots kV_plan_lots dc_plan_lots pm_plan_lots cd_plan_lots ct_plan_lots oc_draw_plan kV_draw_plan dc_draw_plan pm_draw_plan cd_draw_plan ct_draw_plan oc_formed kV_formed dc_formed pm_formed cd_formed ct_formed oc_is_lot kV_is_lot dc_is_lot pm_is_lot cd_is_lot ct_is_lot oc_cross kV_cross dc_cross pm_cross cd_cross ct_cross oc_lots_fault kV_lots_fault dc_lots_fault pm_lots_fault cd_lots_fault ct_lots_fault oc_plan_by kV_plan_by dc_plan_by pm_plan_by cd_plan_by ct_plan_by oc_all_lots kV_all_lots dc_all_lots pm_all_lots cd_all_lots ct_all_lots oc_grown_right kV_grown_right dc_grown_right pm_grown_right cd_grown_right ct_grown_right oc_turned kV_turned dc_turned pm_turned cd_turned ct_turned oc_two_right kV_two_right dc_two_right pm_two_right cd_two_right ct_two_right oc_law kV_law dc_law pm_law cd_law ct_law : Value}
    (a_p_is_number : PySem.W.nsIn K mainGlobals "is_number" = some (some (.ref f_p_is_number))) (l_p_is_number : K.lookup f_p_is_number = some ⟨oc_p_is_number, od_p_is_number, .func (PySem.W.fnOf "is_number" "is_number" (defArgs st_p_is_number) (defBody st_p_is_number) (defScope st_p_is_number) .none kV_p_is_number dc_p_is_number pm_p_is_number an_p_is_number cd_p_is_number ct_p_is_number), sl_p_is_number⟩) (c_p_is_number : PySem.W.codeIn K cd_p_is_number "is_number" = true) (k_p_is_number : PySem.W.keepIn K (.ref f_p_is_number) = true)
    (a_p_mask_of : PySem.W.nsIn K mainGlobals "mask_of" = some (some (.ref f_p_mask_of))) (l_p_mask_of : K.lookup f_p_mask_of = some ⟨oc_p_mask_of, od_p_mask_of, .func (PySem.W.fnOf "mask_of" "mask_of" (defArgs st_p_mask_of) (defBody st_p_mask_of) (defScope st_p_mask_of) .none kV_p_mask_of dc_p_mask_of pm_p_mask_of an_p_mask_of cd_p_mask_of ct_p_mask_of), sl_p_mask_of⟩) (c_p_mask_of : PySem.W.codeIn K cd_p_mask_of "mask_of" = true) (k_p_mask_of : PySem.W.keepIn K (.ref f_p_mask_of) = true)
    (a_p_is_lot : PySem.W.nsIn K mainGlobals "is_lot" = some (some (.ref f_p_is_lot))) (l_p_is_lot : K.lookup f_p_is_lot = some ⟨oc_p_is_lot, od_p_is_lot, .func (PySem.W.fnOf "is_lot" "is_lot" (defArgs st_p_is_lot) (defBody st_p_is_lot) (defScope st_p_is_lot) .none kV_p_is_lot dc_p_is_lot pm_p_is_lot an_p_is_lot cd_p_is_lot ct_p_is_lot), sl_p_is_lot⟩) (c_p_is_lot : PySem.W.codeIn K cd_p_is_lot "is_lot" = true) (k_p_is_lot : PySem.W.keepIn K (.ref f_p_is_lot) = true)
    (a_p_leaves : PySem.W.nsIn K mainGlobals "_leaves" = some (some (.ref f_p_leaves))) (l_p_leaves : K.lookup f_p_leaves = some ⟨oc_p_leaves, od_p_leaves, .func (PySem.W.fnOf "_leaves" "_leaves" (defArgs st_p_leaves) (defBody st_p_leaves) (defScope st_p_leaves) .none kV_p_leaves dc_p_leaves pm_p_leaves an_p_leaves cd_p_leaves ct_p_leaves), sl_p_leaves⟩) (c_p_leaves : PySem.W.codeIn K cd_p_leaves "_leaves" = true) (k_p_leaves : PySem.W.keepIn K (.ref f_p_leaves) = true)
    (a_p_shires_of : PySem.W.nsIn K mainGlobals "shires_of" = some (some (.ref f_p_shires_of))) (l_p_shires_of : K.lookup f_p_shires_of = some ⟨oc_p_shires_of, od_p_shires_of, .func (PySem.W.fnOf "shires_of" "shires_of" (defArgs st_p_shires_of) (defBody st_p_shires_of) (defScope st_p_shires_of) .none kV_p_shires_of dc_p_shires_of pm_p_shires_of an_p_shires_of cd_p_shires_of ct_p_shires_of), sl_p_shires_of⟩) (c_p_shires_of : PySem.W.codeIn K cd_p_shires_of "shires_of" = true) (k_p_shires_of : PySem.W.keepIn K (.ref f_p_shires_of) = true)
    (a_p_parted : PySem.W.nsIn K mainGlobals "_parted" = some (some (.ref f_p_parted))) (l_p_parted : K.lookup f_p_parted = some ⟨oc_p_parted, od_p_parted, .func (PySem.W.fnOf "_parted" "_parted" (defArgs st_p_parted) (defBody st_p_parted) (defScope st_p_parted) .none kV_p_parted dc_p_parted pm_p_parted an_p_parted cd_p_parted ct_p_parted), sl_p_parted⟩) (c_p_parted : PySem.W.codeIn K cd_p_parted "_parted" = true) (k_p_parted : PySem.W.keepIn K (.ref f_p_parted) = true)
    (a_p_lots_of : PySem.W.nsIn K mainGlobals "lots_of" = some (some (.ref f_p_lots_of))) (l_p_lots_of : K.lookup f_p_lots_of = some ⟨oc_p_lots_of, od_p_lots_of, .func (PySem.W.fnOf "lots_of" "lots_of" (defArgs st_p_lots_of) (defBody st_p_lots_of) (defScope st_p_lots_of) .none kV_p_lots_of dc_p_lots_of pm_p_lots_of an_p_lots_of cd_p_lots_of ct_p_lots_of), sl_p_lots_of⟩) (c_p_lots_of : PySem.W.codeIn K cd_p_lots_of "lots_of" = true) (k_p_lots_of : PySem.W.keepIn K (.ref f_p_lots_of) = true)
    (a_p_plan_by_lots : PySem.W.nsIn K mainGlobals "plan_by_lots" = some (some (.ref f_p_plan_by_lots))) (l_p_plan_by_lots : K.lookup f_p_plan_by_lots = some ⟨oc_p_plan_by_lots, od_p_plan_by_lots, .func (PySem.W.fnOf "plan_by_lots" "plan_by_lots" (defArgs st_p_plan_by_lots) (defBody st_p_plan_by_lots) (defScope st_p_plan_by_lots) .none kV_p_plan_by_lots dc_p_plan_by_lots pm_p_plan_by_lots an_p_plan_by_lots cd_p_plan_by_lots ct_p_plan_by_lots), sl_p_plan_by_lots⟩) (c_p_plan_by_lots : PySem.W.codeIn K cd_p_plan_by_lots "plan_by_lots" = true) (k_p_plan_by_lots : PySem.W.keepIn K (.ref f_p_plan_by_lots) = true)
    (a_p_formed : PySem.W.nsIn K mainGlobals "formed" = some (some (.ref f_p_formed))) (l_p_formed : K.lookup f_p_formed = some ⟨oc_p_formed, od_p_formed, .func (PySem.W.fnOf "formed" "formed" (defArgs st_p_formed) (defBody st_p_formed) (defScope st_p_formed) .none kV_p_formed dc_p_formed pm_p_formed an_p_formed cd_p_formed ct_p_formed), sl_p_formed⟩) (c_p_formed : PySem.W.codeIn K cd_p_formed "formed" = true) (k_p_formed : PySem.W.keepIn K (.ref f_p_formed) = true)
    (a_p_cross : PySem.W.nsIn K mainGlobals "_cross" = some (some (.ref f_p_cross))) (l_p_cross : K.lookup f_p_cross = some ⟨oc_p_cross, od_p_cross, .func (PySem.W.fnOf "_cross" "_cross" (defArgs st_p_cross) (defBody st_p_cross) (defScope st_p_cross) .none kV_p_cross dc_p_cross pm_p_cross an_p_cross cd_p_cross ct_p_cross), sl_p_cross⟩) (c_p_cross : PySem.W.codeIn K cd_p_cross "_cross" = true) (k_p_cross : PySem.W.keepIn K (.ref f_p_cross) = true)
    (a_p_first_cross : PySem.W.nsIn K mainGlobals "_first_cross" = some (some (.ref f_p_first_cross))) (l_p_first_cross : K.lookup f_p_first_cross = some ⟨oc_p_first_cross, od_p_first_cross, .func (PySem.W.fnOf "_first_cross" "_first_cross" (defArgs st_p_first_cross) (defBody st_p_first_cross) (defScope st_p_first_cross) .none kV_p_first_cross dc_p_first_cross pm_p_first_cross an_p_first_cross cd_p_first_cross ct_p_first_cross), sl_p_first_cross⟩) (c_p_first_cross : PySem.W.codeIn K cd_p_first_cross "_first_cross" = true) (k_p_first_cross : PySem.W.keepIn K (.ref f_p_first_cross) = true)
    (a_p_judge_lots : PySem.W.nsIn K mainGlobals "judge_lots" = some (some (.ref f_p_judge_lots))) (l_p_judge_lots : K.lookup f_p_judge_lots = some ⟨oc_p_judge_lots, od_p_judge_lots, .func (PySem.W.fnOf "judge_lots" "judge_lots" (defArgs st_p_judge_lots) (defBody st_p_judge_lots) (defScope st_p_judge_lots) .none kV_p_judge_lots dc_p_judge_lots pm_p_judge_lots an_p_judge_lots cd_p_judge_lots ct_p_judge_lots), sl_p_judge_lots⟩) (c_p_judge_lots : PySem.W.codeIn K cd_p_judge_lots "judge_lots" = true) (k_p_judge_lots : PySem.W.keepIn K (.ref f_p_judge_lots) = true)
    (a_p_plan_of : PySem.W.nsIn K mainGlobals "plan_of" = some (some (.ref f_p_plan_of))) (l_p_plan_of : K.lookup f_p_plan_of = some ⟨oc_p_plan_of, od_p_plan_of, .func (PySem.W.fnOf "plan_of" "plan_of" (defArgs st_p_plan_of) (defBody st_p_plan_of) (defScope st_p_plan_of) .none kV_p_plan_of dc_p_plan_of pm_p_plan_of an_p_plan_of cd_p_plan_of ct_p_plan_of), sl_p_plan_of⟩) (c_p_plan_of : PySem.W.codeIn K cd_p_plan_of "plan_of" = true) (k_p_plan_of : PySem.W.keepIn K (.ref f_p_plan_of) = true)
    (a_open_cells : PySem.W.nsIn K mainGlobals "_law_open_cells" = some (some (.ref f_open_cells))) (l_open_cells : K.lookup f_open_cells = some ⟨oc_open_cells, od_open_cells, .func (PySem.W.fnOf "_law_open_cells" "_law_open_cells" (defArgs st_open_cells) (defBody st_open_cells) (defScope st_open_cells) .none kV_open_cells dc_open_cells pm_open_cells an_open_cells cd_open_cells ct_open_cells), sl_open_cells⟩) (c_open_cells : PySem.W.codeIn K cd_open_cells "_law_open_cells" = true) (k_open_cells : PySem.W.keepIn K (.ref f_open_cells) = true)
    (a_pick : PySem.W.nsIn K mainGlobals "_law_pick" = some (some (.ref f_pick))) (l_pick : K.lookup f_pick = some ⟨oc_pick, od_pick, .func (PySem.W.fnOf "_law_pick" "_law_pick" (defArgs st_pick) (defBody st_pick) (defScope st_pick) .none kV_pick dc_pick pm_pick an_pick cd_pick ct_pick), sl_pick⟩) (c_pick : PySem.W.codeIn K cd_pick "_law_pick" = true) (k_pick : PySem.W.keepIn K (.ref f_pick) = true)
    (a_any_order : PySem.W.nsIn K mainGlobals "_law_any_order" = some (some (.ref f_any_order))) (l_any_order : K.lookup f_any_order = some ⟨oc_any_order, od_any_order, .func (PySem.W.fnOf "_law_any_order" "_law_any_order" (defArgs st_any_order) (defBody st_any_order) (defScope st_any_order) .none kV_any_order dc_any_order pm_any_order an_any_order cd_any_order ct_any_order), sl_any_order⟩) (c_any_order : PySem.W.codeIn K cd_any_order "_law_any_order" = true) (k_any_order : PySem.W.keepIn K (.ref f_any_order) = true)
    (a_plan_lots : PySem.W.nsIn K mainGlobals "_law_plan_lots" = some (some (.ref f_plan_lots))) (l_plan_lots : K.lookup f_plan_lots = some ⟨oc_plan_lots, od_plan_lots, .func (PySem.W.fnOf "_law_plan_lots" "_law_plan_lots" (defArgs st_plan_lots) (defBody st_plan_lots) (defScope st_plan_lots) .none kV_plan_lots dc_plan_lots pm_plan_lots an_plan_lots cd_plan_lots ct_plan_lots), sl_plan_lots⟩) (c_plan_lots : PySem.W.codeIn K cd_plan_lots "_law_plan_lots" = true) (k_plan_lots : PySem.W.keepIn K (.ref f_plan_lots) = true)
    (a_draw_plan : PySem.W.nsIn K mainGlobals "_law_draw_plan" = some (some (.ref f_draw_plan))) (l_draw_plan : K.lookup f_draw_plan = some ⟨oc_draw_plan, od_draw_plan, .func (PySem.W.fnOf "_law_draw_plan" "_law_draw_plan" (defArgs st_draw_plan) (defBody st_draw_plan) (defScope st_draw_plan) .none kV_draw_plan dc_draw_plan pm_draw_plan an_draw_plan cd_draw_plan ct_draw_plan), sl_draw_plan⟩) (c_draw_plan : PySem.W.codeIn K cd_draw_plan "_law_draw_plan" = true) (k_draw_plan : PySem.W.keepIn K (.ref f_draw_plan) = true)
    (a_formed : PySem.W.nsIn K mainGlobals "_law_formed" = some (some (.ref f_formed))) (l_formed : K.lookup f_formed = some ⟨oc_formed, od_formed, .func (PySem.W.fnOf "_law_formed" "_law_formed" (defArgs st_formed) (defBody st_formed) (defScope st_formed) .none kV_formed dc_formed pm_formed an_formed cd_formed ct_formed), sl_formed⟩) (c_formed : PySem.W.codeIn K cd_formed "_law_formed" = true) (k_formed : PySem.W.keepIn K (.ref f_formed) = true)
    (a_is_lot : PySem.W.nsIn K mainGlobals "_law_is_lot" = some (some (.ref f_is_lot))) (l_is_lot : K.lookup f_is_lot = some ⟨oc_is_lot, od_is_lot, .func (PySem.W.fnOf "_law_is_lot" "_law_is_lot" (defArgs st_is_lot) (defBody st_is_lot) (defScope st_is_lot) .none kV_is_lot dc_is_lot pm_is_lot an_is_lot cd_is_lot ct_is_lot), sl_is_lot⟩) (c_is_lot : PySem.W.codeIn K cd_is_lot "_law_is_lot" = true) (k_is_lot : PySem.W.keepIn K (.ref f_is_lot) = true)
    (a_cross : PySem.W.nsIn K mainGlobals "_law_cross" = some (some (.ref f_cross))) (l_cross : K.lookup f_cross = some ⟨oc_cross, od_cross, .func (PySem.W.fnOf "_law_cross" "_law_cross" (defArgs st_cross) (defBody st_cross) (defScope st_cross) .none kV_cross dc_cross pm_cross an_cross cd_cross ct_cross), sl_cross⟩) (c_cross : PySem.W.codeIn K cd_cross "_law_cross" = true) (k_cross : PySem.W.keepIn K (.ref f_cross) = true)
    (a_lots_fault : PySem.W.nsIn K mainGlobals "_law_lots_fault" = some (some (.ref f_lots_fault))) (l_lots_fault : K.lookup f_lots_fault = some ⟨oc_lots_fault, od_lots_fault, .func (PySem.W.fnOf "_law_lots_fault" "_law_lots_fault" (defArgs st_lots_fault) (defBody st_lots_fault) (defScope st_lots_fault) .none kV_lots_fault dc_lots_fault pm_lots_fault an_lots_fault cd_lots_fault ct_lots_fault), sl_lots_fault⟩) (c_lots_fault : PySem.W.codeIn K cd_lots_fault "_law_lots_fault" = true) (k_lots_fault : PySem.W.keepIn K (.ref f_lots_fault) = true)
    (a_plan_by : PySem.W.nsIn K mainGlobals "_law_plan_by" = some (some (.ref f_plan_by))) (l_plan_by : K.lookup f_plan_by = some ⟨oc_plan_by, od_plan_by, .func (PySem.W.fnOf "_law_plan_by" "_law_plan_by" (defArgs st_plan_by) (defBody st_plan_by) (defScope st_plan_by) .none kV_plan_by dc_plan_by pm_plan_by an_plan_by cd_plan_by ct_plan_by), sl_plan_by⟩) (c_plan_by : PySem.W.codeIn K cd_plan_by "_law_plan_by" = true) (k_plan_by : PySem.W.keepIn K (.ref f_plan_by) = true)
    (a_all_lots : PySem.W.nsIn K mainGlobals "_law_all_lots" = some (some (.ref f_all_lots))) (l_all_lots : K.lookup f_all_lots = some ⟨oc_all_lots, od_all_lots, .func (PySem.W.fnOf "_law_all_lots" "_law_all_lots" (defArgs st_all_lots) (defBody st_all_lots) (defScope st_all_lots) .none kV_all_lots dc_all_lots pm_all_lots an_all_lots cd_all_lots ct_all_lots), sl_all_lots⟩) (c_all_lots : PySem.W.codeIn K cd_all_lots "_law_all_lots" = true) (k_all_lots : PySem.W.keepIn K (.ref f_all_lots) = true)
    (a_grown_right : PySem.W.nsIn K mainGlobals "_law_grown_right" = some (some (.ref f_grown_right))) (l_grown_right : K.lookup f_grown_right = some ⟨oc_grown_right, od_grown_right, .func (PySem.W.fnOf "_law_grown_right" "_law_grown_right" (defArgs st_grown_right) (defBody st_grown_right) (defScope st_grown_right) .none kV_grown_right dc_grown_right pm_grown_right an_grown_right cd_grown_right ct_grown_right), sl_grown_right⟩) (c_grown_right : PySem.W.codeIn K cd_grown_right "_law_grown_right" = true) (k_grown_right : PySem.W.keepIn K (.ref f_grown_right) = true)
    (a_turned : PySem.W.nsIn K mainGlobals "_law_turned" = some (some (.ref f_turned))) (l_turned : K.lookup f_turned = some ⟨oc_turned, od_turned, .func (PySem.W.fnOf "_law_turned" "_law_turned" (defArgs st_turned) (defBody st_turned) (defScope st_turned) .none kV_turned dc_turned pm_turned an_turned cd_turned ct_turned), sl_turned⟩) (c_turned : PySem.W.codeIn K cd_turned "_law_turned" = true) (k_turned : PySem.W.keepIn K (.ref f_turned) = true)
    (a_two_right : PySem.W.nsIn K mainGlobals "_law_two_right" = some (some (.ref f_two_right))) (l_two_right : K.lookup f_two_right = some ⟨oc_two_right, od_two_right, .func (PySem.W.fnOf "_law_two_right" "_law_two_right" (defArgs st_two_right) (defBody st_two_right) (defScope st_two_right) .none kV_two_right dc_two_right pm_two_right an_two_right cd_two_right ct_two_right), sl_two_right⟩) (c_two_right : PySem.W.codeIn K cd_two_right "_law_two_right" = true) (k_two_right : PySem.W.keepIn K (.ref f_two_right) = true)
    (a_law : PySem.W.nsIn K mainGlobals "law" = some (some (.ref f_law))) (l_law : K.lookup f_law = some ⟨oc_law, od_law, .func (PySem.W.fnOf "law" "law" (defArgs st_law) (defBody st_law) (defScope st_law) .none kV_law dc_law pm_law an_law cd_law ct_law), sl_law⟩) (c_law : PySem.W.codeIn K cd_law "law" = true) (k_law : PySem.W.keepIn K (.ref f_law) = true)
    (z_len : PySem.W.nsIn K mainGlobals "len" = some none)
    (z_list : PySem.W.nsIn K mainGlobals "list" = some none)
    (z_tuple : PySem.W.nsIn K mainGlobals "tuple" = some none)
    (z_range : PySem.W.nsIn K mainGlobals "range" = some none)
    (z_dict : PySem.W.nsIn K mainGlobals "dict" = some none)
    (z_sorted : PySem.W.nsIn K mainGlobals "sorted" = some none)
    (z_sum : PySem.W.nsIn K mainGlobals "sum" = some none)
    (z_max : PySem.W.nsIn K mainGlobals "max" = some none)
    (z_min : PySem.W.nsIn K mainGlobals "min" = some none)
    (z_enumerate : PySem.W.nsIn K mainGlobals "enumerate" = some none)
    (z_zip : PySem.W.nsIn K mainGlobals "zip" = some none)
    (z_all : PySem.W.nsIn K mainGlobals "all" = some none)
    (z_any : PySem.W.nsIn K mainGlobals "any" = some none)
    (z_isinstance : PySem.W.nsIn K mainGlobals "isinstance" = some none)
    (z_int : PySem.W.nsIn K mainGlobals "int" = some none)
    (z_abs : PySem.W.nsIn K mainGlobals "abs" = some none)
    (z_repr : PySem.W.nsIn K mainGlobals "repr" = some none)
    (z_bool : PySem.W.nsIn K mainGlobals "bool" = some none)
    {C_plan_by P_plan_by : Addr} {dd_plan_by : Option Addr} {vs_plan_by : Array Value} {cs_plan_by : Array (Option Value)} {file_plan_by : Str} {tf_plan_by tg_plan_by tt_plan_by : Tok} {flags_plan_by text_plan_by : Int} {inF_plan_by : Bool} (e_plan_by : cd_plan_by = .ref C_plan_by) (lc_plan_by : K.lookup C_plan_by = some ⟨.type "code", dd_plan_by, .fields vs_plan_by, cs_plan_by⟩)
    (v1_plan_by : vs_plan_by[11]? = some (.ref P_plan_by)) (v2_plan_by : vs_plan_by.getD 11 .none = .ref P_plan_by) (v3_plan_by : vs_plan_by.getD 18 .none = .str file_plan_by tf_plan_by) (v4_plan_by : vs_plan_by.getD 7 .none = .int flags_plan_by tg_plan_by) (v5_plan_by : vs_plan_by.getD 9 .none = .bool inF_plan_by) (v6_plan_by : vs_plan_by.getD 10 .none = .int text_plan_by tt_plan_by) (ne_plan_by : C_plan_by ≠ P_plan_by) (np_plan_by : K.lookup P_plan_by = none) (hP_plan_by : h.get? P_plan_by = some (PySem.W.tabObj #[])) (hT : Tb.T = [(P_plan_by, ("_law_plan_by.<locals>.<lambda>" : Str))])
    : LamX.LawAtS l w K CX0 104 63 "script" mg fa h := by
  have e := hfa.symm.trans (PySem.W.mg_of X G a_law)
  cases e
  have F_p_is_number := fun_mk (st := st_p_is_number) l_p_is_number c_p_is_number k_p_is_number
  have b_p_is_number := F_p_is_number.binds (ps := ["value"]) fun _ _ _ _ _ _ us hl => match us, hl with | [_], _ => rfl
  have F_p_mask_of := fun_mk (st := st_p_mask_of) l_p_mask_of c_p_mask_of k_p_mask_of
  have b_p_mask_of := F_p_mask_of.binds (ps := ["shires"]) fun _ _ _ _ _ _ us hl => match us, hl with | [_], _ => rfl
  have F_p_is_lot := fun_mk (st := st_p_is_lot) l_p_is_lot c_p_is_lot k_p_is_lot
  have b_p_is_lot := F_p_is_lot.binds (ps := ["n", "value"]) fun _ _ _ _ _ _ us hl => match us, hl with | [_, _], _ => rfl
  have F_p_leaves := fun_mk (st := st_p_leaves) l_p_leaves c_p_leaves k_p_leaves
  have b_p_leaves := F_p_leaves.binds (ps := ["value"]) fun _ _ _ _ _ _ us hl => match us, hl with | [_], _ => rfl
  have F_p_shires_of := fun_mk (st := st_p_shires_of) l_p_shires_of c_p_shires_of k_p_shires_of
  have b_p_shires_of := F_p_shires_of.binds (ps := ["plan"]) fun _ _ _ _ _ _ us hl => match us, hl with | [_], _ => rfl
  have F_p_parted := fun_mk (st := st_p_parted) l_p_parted c_p_parted k_p_parted
  have b_p_parted := F_p_parted.binds (ps := ["plan"]) fun _ _ _ _ _ _ us hl => match us, hl with | [_], _ => rfl
  have F_p_lots_of := fun_mk (st := st_p_lots_of) l_p_lots_of c_p_lots_of k_p_lots_of
  have b_p_lots_of := F_p_lots_of.binds (ps := ["plan"]) fun _ _ _ _ _ _ us hl => match us, hl with | [_], _ => rfl
  have F_p_plan_by_lots := fun_mk (st := st_p_plan_by_lots) l_p_plan_by_lots c_p_plan_by_lots k_p_plan_by_lots
  have b_p_plan_by_lots := F_p_plan_by_lots.binds (ps := ["lots"]) fun _ _ _ _ _ _ us hl => match us, hl with | [_], _ => rfl
  have F_p_formed := fun_mk (st := st_p_formed) l_p_formed c_p_formed k_p_formed
  have b_p_formed := F_p_formed.binds (ps := ["plan"]) fun _ _ _ _ _ _ us hl => match us, hl with | [_], _ => rfl
  have F_p_cross := fun_mk (st := st_p_cross) l_p_cross c_p_cross k_p_cross
  have b_p_cross := F_p_cross.binds (ps := ["one", "other"]) fun _ _ _ _ _ _ us hl => match us, hl with | [_, _], _ => rfl
  have F_p_first_cross := fun_mk (st := st_p_first_cross) l_p_first_cross c_p_first_cross k_p_first_cross
  have b_p_first_cross := F_p_first_cross.binds (ps := ["lots"]) fun _ _ _ _ _ _ us hl => match us, hl with | [_], _ => rfl
  have F_p_judge_lots := fun_mk (st := st_p_judge_lots) l_p_judge_lots c_p_judge_lots k_p_judge_lots
  have b_p_judge_lots := F_p_judge_lots.binds (ps := ["n", "value"]) fun _ _ _ _ _ _ us hl => match us, hl with | [_, _], _ => rfl
  have F_p_plan_of := fun_mk (st := st_p_plan_of) l_p_plan_of c_p_plan_of k_p_plan_of
  have b_p_plan_of := F_p_plan_of.binds (ps := ["n", "lots"]) fun _ _ _ _ _ _ us hl => match us, hl with | [_, _], _ => rfl
  have F_open_cells := fun_mk (st := st_open_cells) l_open_cells c_open_cells k_open_cells
  have b_open_cells := F_open_cells.binds (ps := ["script"]) fun _ _ _ _ _ _ us hl => match us, hl with | [_], _ => rfl
  have F_pick := fun_mk (st := st_pick) l_pick c_pick k_pick
  have b_pick := F_pick.binds (ps := ["source", "most"]) fun _ _ _ _ _ _ us hl => match us, hl with | [_, _], _ => rfl
  have F_any_order := fun_mk (st := st_any_order) l_any_order c_any_order k_any_order
  have b_any_order := F_any_order.binds (ps := ["source", "things"]) fun _ _ _ _ _ _ us hl => match us, hl with | [_, _], _ => rfl
  have F_plan_lots := fun_mk (st := st_plan_lots) l_plan_lots c_plan_lots k_plan_lots
  have b_plan_lots := F_plan_lots.binds (ps := ["value"]) fun _ _ _ _ _ _ us hl => match us, hl with | [_], _ => rfl
  have F_draw_plan := fun_mk (st := st_draw_plan) l_draw_plan c_draw_plan k_draw_plan
  have b_draw_plan := F_draw_plan.binds (ps := ["source", "shires"]) fun _ _ _ _ _ _ us hl => match us, hl with | [_, _], _ => rfl
  have F_formed := fun_mk (st := st_formed) l_formed c_formed k_formed
  have b_formed := F_formed.binds (ps := ["plan"]) fun _ _ _ _ _ _ us hl => match us, hl with | [_], _ => rfl
  have F_is_lot := fun_mk (st := st_is_lot) l_is_lot c_is_lot k_is_lot
  have b_is_lot := F_is_lot.binds (ps := ["n", "value"]) fun _ _ _ _ _ _ us hl => match us, hl with | [_, _], _ => rfl
  have F_cross := fun_mk (st := st_cross) l_cross c_cross k_cross
  have b_cross := F_cross.binds (ps := ["one", "other"]) fun _ _ _ _ _ _ us hl => match us, hl with | [_, _], _ => rfl
  have F_lots_fault := fun_mk (st := st_lots_fault) l_lots_fault c_lots_fault k_lots_fault
  have b_lots_fault := F_lots_fault.binds (ps := ["n", "value"]) fun _ _ _ _ _ _ us hl => match us, hl with | [_, _], _ => rfl
  have F_plan_by := fun_mk (st := st_plan_by) l_plan_by c_plan_by k_plan_by
  have b_plan_by := F_plan_by.binds (ps := ["lots"]) fun _ _ _ _ _ _ us hl => match us, hl with | [_], _ => rfl
  have F_all_lots := fun_mk (st := st_all_lots) l_all_lots c_all_lots k_all_lots
  have b_all_lots := F_all_lots.binds (ps := ["n"]) fun _ _ _ _ _ _ us hl => match us, hl with | [_], _ => rfl
  have F_grown_right := fun_mk (st := st_grown_right) l_grown_right c_grown_right k_grown_right
  have b_grown_right := F_grown_right.binds (ps := ["source", "n"]) fun _ _ _ _ _ _ us hl => match us, hl with | [_, _], _ => rfl
  have F_turned := fun_mk (st := st_turned) l_turned c_turned k_turned
  have b_turned := F_turned.binds (ps := ["source", "plan"]) fun _ _ _ _ _ _ us hl => match us, hl with | [_, _], _ => rfl
  have F_two_right := fun_mk (st := st_two_right) l_two_right c_two_right k_two_right
  have b_two_right := F_two_right.binds (ps := ["source", "n"]) fun _ _ _ _ _ _ us hl => match us, hl with | [_, _], _ => rfl
  have F_law := fun_mk (st := st_law) l_law c_law k_law
  have b_law := F_law.binds (ps := ["script"]) fun _ _ _ _ _ _ us hl => match us, hl with | [_], _ => rfl
  subst e_plan_by
  refine lawAt (fd := PySem.W.fnOf "law" "law" (defArgs st_law) (defBody st_law) (defScope st_law) .none kV_law dc_law pm_law an_law cd_law ct_law) hT hP_plan_by np_plan_by (codeHd_of X lc_plan_by v1_plan_by v2_plan_by v3_plan_by v4_plan_by v5_plan_by v6_plan_by ne_plan_by) (fun s v => .of_eq rfl) fun base _ _ TB => ?_
  exact ok_law (⟨_, _, F_p_is_number, PySem.W.mg_of X G a_p_is_number, b_p_is_number, _, _, F_p_mask_of, PySem.W.mg_of X G a_p_mask_of, b_p_mask_of, _, _, F_p_is_lot, PySem.W.mg_of X G a_p_is_lot, b_p_is_lot, _, _, F_p_leaves, PySem.W.mg_of X G a_p_leaves, b_p_leaves, _, _, F_p_shires_of, PySem.W.mg_of X G a_p_shires_of, b_p_shires_of, _, _, F_p_parted, PySem.W.mg_of X G a_p_parted, b_p_parted, _, _, F_p_lots_of, PySem.W.mg_of X G a_p_lots_of, b_p_lots_of, _, _, F_p_plan_by_lots, PySem.W.mg_of X G a_p_plan_by_lots, b_p_plan_by_lots, _, _, F_p_formed, PySem.W.mg_of X G a_p_formed, b_p_formed, _, _, F_p_cross, PySem.W.mg_of X G a_p_cross, b_p_cross, _, _, F_p_first_cross, PySem.W.mg_of X G a_p_first_cross, b_p_first_cross, _, _, F_p_judge_lots, PySem.W.mg_of X G a_p_judge_lots, b_p_judge_lots, _, _, F_p_plan_of, PySem.W.mg_of X G a_p_plan_of, b_p_plan_of, _, _, F_open_cells, PySem.W.mg_of X G a_open_cells, b_open_cells, _, _, F_pick, PySem.W.mg_of X G a_pick, b_pick, _, _, F_any_order, PySem.W.mg_of X G a_any_order, b_any_order, _, _, F_plan_lots, PySem.W.mg_of X G a_plan_lots, b_plan_lots, _, _, F_draw_plan, PySem.W.mg_of X G a_draw_plan, b_draw_plan, _, _, F_formed, PySem.W.mg_of X G a_formed, b_formed, _, _, F_is_lot, PySem.W.mg_of X G a_is_lot, b_is_lot, _, _, F_cross, PySem.W.mg_of X G a_cross, b_cross, _, _, F_lots_fault, PySem.W.mg_of X G a_lots_fault, b_lots_fault, _, _, F_plan_by, PySem.W.mg_of X G a_plan_by, b_plan_by, ⟨C_plan_by, P_plan_by, rfl, TB, by rw [hT]; exact List.mem_cons_self .., fun p m _ => by rw [hT] at m; rw [List.mem_singleton.mp m]⟩, _, _, F_all_lots, PySem.W.mg_of X G a_all_lots, b_all_lots, _, _, F_grown_right, PySem.W.mg_of X G a_grown_right, b_grown_right, _, _, F_turned, PySem.W.mg_of X G a_turned, b_turned, _, _, F_two_right, PySem.W.mg_of X G a_two_right, b_two_right, _, _, F_law, PySem.W.mg_of X G a_law, b_law, PySem.W.mg_none_of X G z_len, PySem.W.mg_none_of X G z_list, PySem.W.mg_none_of X G z_tuple, PySem.W.mg_none_of X G z_range, PySem.W.mg_none_of X G z_dict, PySem.W.mg_none_of X G z_sorted, PySem.W.mg_none_of X G z_sum, PySem.W.mg_none_of X G z_max, PySem.W.mg_none_of X G z_min, PySem.W.mg_none_of X G z_enumerate, PySem.W.mg_none_of X G z_zip, PySem.W.mg_none_of X G z_all, PySem.W.mg_none_of X G z_any, PySem.W.mg_none_of X G z_isinstance, PySem.W.mg_none_of X G z_int, PySem.W.mg_none_of X G z_abs, PySem.W.mg_none_of X G z_repr, PySem.W.mg_none_of X G z_bool⟩) hok
end Tst


namespace MM
open PySem PySem.Spec PyProof.Rows L2
variable [Tb]
theorem kit1 : kitB "int" "tuple" = some false := by decide +kernel
theorem kit2 : kitB "tuple" "tuple" = some true := by decide +kernel
theorem kit3 : kitB "int" "int" = some true := by decide +kernel
theorem kit4 : kitB "int" "bool" = some false := by decide +kernel
theorem kit5 : kitB "tuple" "int" = some false := by decide +kernel
theorem isi_int_tup (i : Int) : isiD "tuple" (.int i) = some false := kit1
theorem isi_tup_tup (ds : List PyData) : isiD "tuple" (.tuple ds) = some true := kit2
theorem isi_int_int (i : Int) : isiD "int" (.int i) = some true := kit3
theorem isi_int_bool (i : Int) : isiD "bool" (.int i) = some false := kit4
theorem isi_tup_int (ds : List PyData) : isiD "int" (.tuple ds) = some false := kit5
theorem fit_ok {α : Type} {n : Nat} {x : α} (h : n ≤ 100000) : fit n x = some x := fit_eq h
/-! ### data without bools -/
mutual
def nb : PyData → Bool
  | .none => true
  | .bool _ => false
  | .int _ => true
  | .str _ => true
  | .list ds => nbAll ds
  | .tuple ds => nbAll ds
  | .dict _ => false
def nbAll : List PyData → Bool
  | [] => true
  | d :: r => nb d && nbAll r
end
mutual
theorem eqv_nb : ∀ {d e : PyData}, nb d = true → nb e = true → (PyData.eqv d e = true ↔ d = e)
  | .none, e, _, _ => by cases e <;> simp [PyData.eqv]
  | .bool _, _, h, _ => by simp [nb] at h
  | .int i, e, _, he => by cases e <;> simp [PyData.eqv] <;> simp [nb] at he
  | .str i, e, _, _ => by cases e <;> simp [PyData.eqv]
  | .list xs, e, h, he => by
    cases e <;> simp [PyData.eqv]
    simp only [nb] at h he
    exact eqvAll_nb h he
  | .tuple xs, e, h, he => by
    cases e <;> simp [PyData.eqv]
    simp only [nb] at h he
    exact eqvAll_nb h he
  | .dict _, _, h, _ => by simp [nb] at h
theorem eqvAll_nb : ∀ {xs ys : List PyData}, nbAll xs = true → nbAll ys = true → (PyData.eqvAll xs ys = true ↔ xs = ys)
  | [], ys, _, _ => by cases ys <;> simp [PyData.eqvAll]
  | x :: xs, [], _, _ => by simp [PyData.eqvAll]
  | x :: xs, y :: ys, h, k => by
    simp only [nbAll, Bool.and_eq_true] at h k
    simp only [PyData.eqvAll, Bool.and_eq_true, List.cons.injEq]
    rw [eqv_nb h.1 k.1, eqvAll_nb h.2 k.2]
end
theorem nbAll_of : ∀ {ds : List PyData}, (∀ d ∈ ds, nb d = true) → nbAll ds = true
  | [], _ => rfl
  | d :: r, h => by
    simp only [nbAll, Bool.and_eq_true]
    exact ⟨h d (List.mem_cons_self ..), nbAll_of fun e m => h e (List.mem_cons_of_mem _ m)⟩
theorem canAll_of : ∀ {ds : List PyData}, (∀ d ∈ ds, PyData.canLay0 d = true) → PyData.canLayAll0 ds = true
  | [], _ => rfl
  | d :: r, h => by
    simp only [PyData.canLayAll0, Bool.and_eq_true]
    exact ⟨h d (List.mem_cons_self ..), canAll_of fun e m => h e (List.mem_cons_of_mem _ m)⟩
theorem depthAll_of {k : Nat} : ∀ {ds : List PyData}, (∀ d ∈ ds, PyData.depth d ≤ k) → PyData.depthAll ds ≤ k
  | [], _ => Nat.zero_le _
  | d :: r, h => by
    simp only [PyData.depthAll]
    exact Nat.max_le.mpr ⟨h d (List.mem_cons_self ..), depthAll_of fun e m => h e (List.mem_cons_of_mem _ m)⟩
/-- data that can be compared, k deep -/
structure Sh (k : Nat) (d : PyData) : Prop where
  nb : nb d = true
  can : PyData.canLay0 d = true
  dp : PyData.depth d ≤ k
theorem Sh.mono {k l : Nat} {d : PyData} (h : Sh k d) (e : k ≤ l) : Sh l d := ⟨h.nb, h.can, Nat.le_trans h.dp e⟩
theorem Sh.int (i : Int) (k : Nat) : Sh k (.int i) := ⟨rfl, rfl, Nat.zero_le _⟩
theorem Sh.none (k : Nat) : Sh k .none := ⟨rfl, rfl, Nat.zero_le _⟩
theorem Sh.tup {k : Nat} {ds : List PyData} (h : ∀ d ∈ ds, Sh k d) : Sh (k + 1) (.tuple ds) := ⟨nbAll_of fun d m => (h d m).nb, canAll_of fun d m => (h d m).can, by
  show PyData.depthAll ds + 1 ≤ k + 1
  exact Nat.add_le_add_right (depthAll_of fun d m => (h d m).dp) 1⟩
theorem Sh.lst {k : Nat} {ds : List PyData} (h : ∀ d ∈ ds, Sh k d) : Sh (k + 1) (.list ds) := ⟨nbAll_of fun d m => (h d m).nb, canAll_of fun d m => (h d m).can, by
  show PyData.depthAll ds + 1 ≤ k + 1
  exact Nat.add_le_add_right (depthAll_of fun d m => (h d m).dp) 1⟩
theorem Sh.shaped {k : Nat} {d : PyData} (h : Sh k d) (hk : k ≤ 64) : SeqAt.shaped d = true := by
  unfold SeqAt.shaped
  rw [h.can]
  simpa using Nat.le_trans h.dp hk
open Classical in
theorem fEq_sh {k l : Nat} {d e : PyData} {neg : Bool} (h : Sh k d) (he : Sh l e) (hk : k ≤ 64) (hl : l ≤ 64) : fEq neg d e = some (.bool (if neg then !decide (d = e) else decide (d = e))) := by
  unfold fEq
  rw [if_pos ⟨h.shaped hk, he.shaped hl⟩]
  have : PyData.eqv d e = decide (d = e) := by
    by_cases c : d = e
    · rw [(eqv_nb h.nb he.nb).mpr c]; simp [c]
    · rw [decide_eq_false c]
      cases q : PyData.eqv d e with
      | false => rfl
      | true => exact absurd ((eqv_nb h.nb he.nb).mp q) c
  rw [this]
theorem fEq_same {k : Nat} {d : PyData} {neg : Bool} (h : Sh k d) (hk : k ≤ 64) : fEq neg d d = some (.bool (!neg)) := by
  rw [fEq_sh h h hk hk]
  cases neg <;> simp
theorem fEq_int (neg : Bool) (i j : Int) : fEq neg (.int i) (.int j) = some (.bool (if neg then !decide (i = j) else decide (i = j))) := by
  rw [fEq_sh (Sh.int i 0) (Sh.int j 0) (by decide) (by decide)]
  by_cases c : i = j
  · subst c; simp
  · have : ¬ PyData.int i = .int j := fun e => c (by cases e; rfl)
    simp [c, this]
theorem fEq_bool (neg : Bool) (i j : Bool) : fEq neg (.bool i) (.bool j) = some (.bool (if neg then !decide (i = j) else decide (i = j))) := by
  cases neg <;> cases i <;> cases j <;> rfl
end MM


namespace Tst
open PySem PySem.Spec PyProof.Rows L2 MM LM
variable [Tb]

/-! ### plans and lots as data -/
def eI (n : Nat) : PyData := .int n
def eL (l : List Nat) : PyData := .tuple (l.map eI)
def eP : Pl → PyData
  | .leaf s => .int s
  | .node a b => .tuple [eP a, eP b]
theorem mPop_snoc {a b c : Cell} {ds : List PyData} {x : PyData} : mPop 2 [a, b, .lst (ds ++ [x]), c] = some (x, [a, b, .lst ds, c]) := by
  simp [mPop]
def sizes (q : List Pl) : Nat := (q.map fun p => (subs p).length).sum
theorem leaves_go : ∀ (k : Nat) (st : List Pl) (v c : Cell) (found : List PyData), sizes st < k → found.length + st.length + 2 * sizes st ≤ 90000 → ∃ c',
    whileGo (tTru (rVar 2)) (sSeq (sAsg (mPop 2) (bName 3))
      (sIf (tAn (tX (mIsi "tuple" (mVar 3))) (tX (mOp (fEq false) (m1 fLen (rX (mVar 3))) (mC (.int 2))))) (sDrop (mExt 2 (lLst (lCons (mIx (rX (mVar 3)) (mC (.int 1))) (lCons (mIx (rX (mVar 3)) (mC (.int 0))) lNil))))) (sDrop (mApp 1 (mVar 3))))) k
      [v, .lst found, .lst ((st.map eP).reverse), c] = some (.nx, [v, .lst (found ++ (st.flatMap leaves).map eI), .lst [], c'])
  | 0, st, v, c, found, h, _ => absurd h (Nat.not_lt_zero _)
  | k + 1, [], v, c, found, h, _ => by
    refine ⟨c, ?_⟩
    simp [whileGo, tTru, rVar, look, truD]
  | k + 1, .leaf s :: st, v, c, found, h, hl => by
    have h1 : sizes (Pl.leaf s :: st) = 1 + sizes st := by simp [sizes, subs]
    obtain ⟨c', ih⟩ := leaves_go k st v (.dat (.int s)) (found ++ [.int s]) (by omega) (by simp only [List.length_append, List.length_cons, List.length_nil] at *; omega)
    refine ⟨c', ?_⟩
    have hf : found.length ≤ 100000 := by omega
    rw [whileGo]
    simp only [List.map_cons, List.reverse_cons, eP]
    simp [tTru, truD, mIsi, isi_int_tup, mPop_snoc, mApp, hf, sSeq, sAsg, sAsgL, sRet, sDrop, sIf, sNext, mVar, mC, lNil, lCons, lLst, mTup, rX, rVar, look, fzL, m1, l1, mOp, mIx, mCall, tX, tAn, tOrr, tNo, tTrue, mIf, mAn, mOrr, mNo, mNeg, bName, bTup, bTupL, bCons, bNil, items, fLen, fTuple, fit_ok, isL, start0, runP, wpG, mSl, lSl, oX, oNo]
    simp only [List.append_assoc, List.singleton_append, List.flatMap_cons, leaves, List.map_append, List.map_cons, List.map_nil, eI] at ih ⊢
    exact ih
  | k + 1, .node a b :: st, v, c, found, h, hl => by
    have h1 : sizes (Pl.node a b :: st) = 1 + sizes (a :: b :: st) := by simp [sizes, subs]; omega
    obtain ⟨c', ih⟩ := leaves_go k (a :: b :: st) v (.dat (.tuple [eP a, eP b])) found (by omega) (by simp only [List.length_cons] at *; omega)
    refine ⟨c', ?_⟩
    have hf : st.length + 2 ≤ 100000 := by simp only [List.length_cons] at hl; omega
    rw [whileGo]
    simp only [List.map_cons, List.reverse_cons, eP]
    simp [hf, tTru, truD, mIsi, isi_tup_tup, mPop_snoc, mExt, fEq_int, fIx, atI, ixN, sSeq, sAsg, sAsgL, sRet, sDrop, sIf, sNext, mVar, mC, lNil, lCons, lLst, mTup, rX, rVar, look, fzL, m1, l1, mOp, mIx, mCall, tX, tAn, tOrr, tNo, tTrue, mIf, mAn, mOrr, mNo, mNeg, bName, bTup, bTupL, bCons, bNil, items, fLen, fTuple, fit_ok, isL, start0, runP, wpG, mSl, lSl, oX, oNo]
    simp only [List.map_cons, List.reverse_cons, List.append_assoc, List.singleton_append, List.flatMap_cons, leaves, List.map_append] at ih ⊢
    exact ih
theorem subs_lim (p : Pl) (h : (leaves p).length ≤ 1000) : (subs p).length ≤ 2000 := by
  have := subs_len p
  omega
theorem ev_leaves (p : Pl) (h : (leaves p).length ≤ 1000) : m_p_leaves [eP p] = some (.list ((leaves p).map eI)) := by
  have hs := subs_lim p h
  have hz : sizes [p] = (subs p).length := by simp [sizes]
  obtain ⟨c', e⟩ := leaves_go 100000 [p] (.dat (eP p)) .no [] (by omega) (by simp; omega)
  simp only [List.map_cons, List.map_nil, List.reverse_cons, List.reverse_nil, List.nil_append] at e
  unfold m_p_leaves b_p_leaves
  simp [sWhile, e, mFrz, sSeq, sAsg, sAsgL, sRet, sDrop, sIf, sNext, mVar, mC, lNil, lCons, lLst, mTup, rX, rVar, look, fzL, m1, l1, mOp, mIx, mCall, tX, tAn, tOrr, tNo, tTrue, mIf, mAn, mOrr, mNo, mNeg, bName, bTup, bTupL, bCons, bNil, items, fLen, fTuple, fit_ok, isL, start0, runP, wpG, mSl, lSl, oX, oNo]

/-! ### _parted -/
theorem parted_go : ∀ (k : Nat) (st : List Pl) (v c : Cell) (found : List PyData), sizes st < k → found.length + st.length + 2 * sizes st ≤ 90000 → ∃ c',
    whileGo (tTru (rVar 2)) (sSeq (sAsg (mPop 2) (bName 3))
      (sSeq (sDrop (mApp 1 (mVar 3)))
      (sIf (tX (mIsi "tuple" (mVar 3))) (sDrop (mExt 2 (lLst (lCons (mIx (rX (mVar 3)) (mC (.int 1))) (lCons (mIx (rX (mVar 3)) (mC (.int 0))) lNil))))) sNext))) k
      [v, .lst found, .lst ((st.map eP).reverse), c] = some (.nx, [v, .lst (found ++ (st.flatMap subs).map eP), .lst [], c'])
  | 0, st, v, c, found, h, _ => absurd h (Nat.not_lt_zero _)
  | k + 1, [], v, c, found, h, _ => by
    refine ⟨c, ?_⟩
    simp [whileGo, tTru, rVar, look, truD]
  | k + 1, .leaf s :: st, v, c, found, h, hl => by
    have h1 : sizes (Pl.leaf s :: st) = 1 + sizes st := by simp [sizes, subs]
    obtain ⟨c', ih⟩ := parted_go k st v (.dat (.int s)) (found ++ [.int s]) (by omega) (by simp only [List.length_append, List.length_cons, List.length_nil] at *; omega)
    refine ⟨c', ?_⟩
    have hf : found.length ≤ 100000 := by omega
    rw [whileGo]
    simp only [List.map_cons, List.reverse_cons, eP]
    simp [tTru, truD, mIsi, isi_int_tup, mPop_snoc, mApp, hf, sSeq, sAsg, sAsgL, sRet, sDrop, sIf, sNext, mVar, mC, lNil, lCons, lLst, mTup, rX, rVar, look, fzL, m1, l1, mOp, mIx, mCall, tX, tAn, tOrr, tNo, tTrue, mIf, mAn, mOrr, mNo, mNeg, bName, bTup, bTupL, bCons, bNil, items, fLen, fTuple, fit_ok, isL, start0, runP, wpG, mSl, lSl, oX, oNo]
    simp only [List.append_assoc, List.singleton_append, List.flatMap_cons, subs, List.map_append, List.map_cons, List.map_nil, eP] at ih ⊢
    exact ih
  | k + 1, .node a b :: st, v, c, found, h, hl => by
    have h1 : sizes (Pl.node a b :: st) = 1 + sizes (a :: b :: st) := by simp [sizes, subs]; omega
    obtain ⟨c', ih⟩ := parted_go k (a :: b :: st) v (.dat (.tuple [eP a, eP b])) (found ++ [.tuple [eP a, eP b]]) (by omega) (by simp only [List.length_cons, List.length_append, List.length_nil] at *; omega)
    refine ⟨c', ?_⟩
    have hf : st.length + 2 ≤ 100000 := by simp only [List.length_cons] at hl; omega
    have hf2 : found.length ≤ 100000 := by omega
    rw [whileGo]
    simp only [List.map_cons, List.reverse_cons, eP]
    simp [hf, hf2, tTru, truD, mIsi, isi_tup_tup, mPop_snoc, mExt, mApp, fIx, atI, ixN, sSeq, sAsg, sAsgL, sRet, sDrop, sIf, sNext, mVar, mC, lNil, lCons, lLst, mTup, rX, rVar, look, fzL, m1, l1, mOp, mIx, mCall, tX, tAn, tOrr, tNo, tTrue, mIf, mAn, mOrr, mNo, mNeg, bName, bTup, bTupL, bCons, bNil, items, fLen, fTuple, fit_ok, isL, start0, runP, wpG, mSl, lSl, oX, oNo]
    simp only [List.map_cons, List.reverse_cons, List.append_assoc, List.singleton_append, List.flatMap_cons, subs, List.map_append, List.cons_append, eP] at ih ⊢
    exact ih
theorem ev_parted (p : Pl) (h : (leaves p).length ≤ 1000) : m_p_parted [eP p] = some (.list ((subs p).map eP)) := by
  have hs := subs_lim p h
  have hz : sizes [p] = (subs p).length := by simp [sizes]
  obtain ⟨c', e⟩ := parted_go 100000 [p] (.dat (eP p)) .no [] (by omega) (by simp; omega)
  simp only [List.map_cons, List.map_nil, List.reverse_cons, List.reverse_nil, List.nil_append] at e
  unfold m_p_parted b_p_parted
  simp [sWhile, e, mFrz, sSeq, sAsg, sAsgL, sRet, sDrop, sIf, sNext, mVar, mC, lNil, lCons, lLst, mTup, rX, rVar, look, fzL, m1, l1, mOp, mIx, mCall, tX, tAn, tOrr, tNo, tTrue, mIf, mAn, mOrr, mNo, mNeg, bName, bTup, bTupL, bCons, bNil, items, fLen, fTuple, fit_ok, isL, start0, runP, wpG, mSl, lSl, oX, oNo]

/-! ### sorted ints, sorted lots -/
theorem ints_eI (l : List Nat) : intsOf (l.map eI) = some (l.map fun (n : Nat) => (n : Int)) := by
  induction l with
  | nil => rfl
  | cons a l ih => simp only [List.map_cons, eI, intsOf] at ih ⊢; rw [ih]; rfl
theorem sortI_eI (l : List Nat) : sortI (l.map fun (n : Nat) => (n : Int)) = (sn l).map fun (n : Nat) => (n : Int) := by
  unfold sortI sn
  rw [List.map_mergeSort]
  intro a _ b _
  simp
theorem fSortI_eI (l : List Nat) : fSortI (.list (l.map eI)) = some ((sn l).map eI) := by
  simp only [fSortI, ints_eI, Option.bind_some, sortI_eI, List.map_map]
  rfl
theorem ev_shires_of (p : Pl) (h : (leaves p).length ≤ 1000) : m_p_shires_of [eP p] = some (eL (lot p)) := by
  unfold m_p_shires_of b_p_shires_of
  simp [ev_leaves p h, fSortI_eI, eL, lot, sSeq, sAsg, sAsgL, sRet, sDrop, sIf, sNext, mVar, mC, lNil, lCons, lLst, mTup, rX, rVar, look, fzL, m1, l1, mOp, mIx, mCall, tX, tAn, tOrr, tNo, tTrue, mIf, mAn, mOrr, mNo, mNeg, bName, bTup, bTupL, bCons, bNil, items, fLen, fTuple, fit_ok, isL, start0, runP, wpG, mSl, lSl, oX, oNo]
theorem encL_eI (l : List Nat) : encL (l.map eI) = some (l.map fun (n : Nat) => [(n : Int)], l.map fun _ => false) := by
  induction l with
  | nil => rfl
  | cons a l ih => simp only [List.map_cons, eI, encL, encE] at ih ⊢; rw [ih]; rfl
theorem kD_eL (l : List Nat) : kD (eL l) = l.map fun (n : Nat) => [(n : Int)] := by simp [kD, encT, eL, encL_eI]
theorem kK_eL (l : List Nat) : kK (eL l) = l.map fun _ => false := by simp [kK, encT, eL, encL_eI]
theorem lexLt_one (a b : Nat) : HT.lexLt [(a : Int)] [(b : Int)] = decide (a < b) := by
  simp only [HT.lexLt]
  by_cases c : a = b
  · subst c; simp
  · have : ¬ (a : Int) = b := fun e => c (by omega)
    rw [if_neg this]
    by_cases d : a < b
    · simp [d]
    · simp [d]
theorem lexL_eL : ∀ a b : List Nat, lexL (kD (eL a)) (kD (eL b)) = lx a b := by
  intro a b
  rw [kD_eL, kD_eL]
  unfold lexL
  induction a generalizing b with
  | nil => cases b <;> rfl
  | cons x a ih =>
    cases b with
    | nil => rfl
    | cons y b =>
      simp only [List.map_cons, lexG, lx]
      by_cases c : x = y
      · subst c; simp [ih]
      · have : ¬ [(x : Int)] = [(y : Int)] := fun e => c (by simp at e; omega)
        rw [if_neg this, if_neg c, lexLt_one]
theorem sortT_eL (L : List (List Nat)) : sortT (L.map eL) = (srt L).map eL := by
  unfold sortT srt
  rw [List.map_mergeSort]
  intro a _ b _
  rw [lexL_eL]
theorem compat_false : ∀ (a b : List Nat), compat (a.map fun _ => false) (b.map fun _ => false) = true
  | [], _ => by simp [compat]
  | _ :: _, [] => by simp [compat]
  | _ :: a, _ :: b => by simp [compat, compat_false a b]
theorem okS_eL {L : List (List Nat)} (h : ∀ l ∈ L, l ≠ []) : okS (L.map eL) = some () := by
  cases L with
  | nil => rfl
  | cons l L =>
    have hl := h l (List.mem_cons_self ..)
    obtain ⟨x, l', rfl⟩ := List.exists_cons_of_ne_nil hl
    simp only [List.map_cons, okS, kK_eL]
    rw [if_pos]
    simp only [Bool.and_eq_true, List.all_eq_true]
    constructor
    · intro d m
      have : d ∈ ((x :: l') :: L).map eL := by simpa using m
      obtain ⟨k, mk, rfl⟩ := List.mem_map.mp this
      obtain ⟨y, k', rfl⟩ := List.exists_cons_of_ne_nil (h k mk)
      rw [kK_eL]
      simp [encT, eL, encL_eI]
      simp [encL_eI, ← List.map_cons]
    · intro d m e m'
      have m : d ∈ ((x :: l') :: L).map eL := by simpa using m
      have m' : e ∈ ((x :: l') :: L).map eL := by simpa using m'
      obtain ⟨k, mk, rfl⟩ := List.mem_map.mp m
      obtain ⟨j, mj, rfl⟩ := List.mem_map.mp m'
      rw [kK_eL, kK_eL]
      exact compat_false k j
theorem fSortT_eL {L : List (List Nat)} (h : ∀ l ∈ L, l ≠ []) : fSortT (.list (L.map eL)) = some ((srt L).map eL) := by
  simp [fSortT, okS_eL h, sortT_eL]
theorem lot_ne (p : Pl) : lot p ≠ [] := by
  intro e
  have := lot_len p
  rw [e] at this
  have := leaves_pos p
  simp at *
  omega
/-- a comprehension that only looks -/
theorem comp_map {b : MB} {t : MT} {m : MX} {vs : List Nat} {Γ : Ga} {α : Type} {f : α → PyData} {g : α → PyData} : ∀ ds : List α, (∀ d ∈ ds, ∃ Γ1 Γ3, b (f d) Γ = some Γ1 ∧ t Γ1 = some (true, Γ1) ∧ m Γ1 = some (g d, Γ3) ∧ wpG Γ3 vs = Γ) → compGo any_ b t m vs (ds.map f) Γ = some (ds.map g, Γ)
  | [], _ => by
    rw [List.map_nil, compGo, if_pos (show any_ Γ from trivial)]
    rfl
  | d :: ds, h => by
    obtain ⟨Γ1, Γ3, h1, h2, h3, h4⟩ := h d (List.mem_cons_self ..)
    have ih := comp_map ds fun e m => h e (List.mem_cons_of_mem _ m)
    rw [List.map_cons, compGo, if_pos (show any_ Γ from trivial), h1]
    simp only [Option.bind_some, h2, if_true, h3, h4, ih, List.map_cons]
theorem ev_lots_of (p : Pl) (h : (leaves p).length ≤ 1000) : m_p_lots_of [eP p] = some (.tuple ((lots p).map eL)) := by
  have hs := subs_lim p h
  have hc : compGo any_ (bName 1) tTrue (mCall m_p_shires_of (lCons (mVar 1) lNil)) [1] ((subs p).map eP) [.dat (eP p), .no] = some ((subs p).map fun q => eL (lot q), [.dat (eP p), .no]) := by
    refine comp_map _ fun q m => ⟨[.dat (eP p), .dat (eP q)], [.dat (eP p), .dat (eP q)], by simp [bName], rfl, ?_, by simp [wpG]⟩
    have hq : (leaves q).length ≤ 1000 := by rcases sub_len m with rfl | e <;> omega
    simp [ev_shires_of q hq, sSeq, sAsg, sAsgL, sRet, sDrop, sIf, sNext, mVar, mC, lNil, lCons, lLst, mTup, rX, rVar, look, fzL, m1, l1, mOp, mIx, mCall, tX, tAn, tOrr, tNo, tTrue, mIf, mAn, mOrr, mNo, mNeg, bName, bTup, bTupL, bCons, bNil, items, fLen, fTuple, fit_ok, isL, start0, runP, wpG, mSl, lSl, oX, oNo]
  have e : ((subs p).map fun q => eL (lot q)) = ((subs p).map lot).map eL := by rw [List.map_map]; rfl
  have hn : ∀ l ∈ (subs p).map lot, l ≠ [] := fun l m => by obtain ⟨q, _, rfl⟩ := List.mem_map.mp m; exact lot_ne q
  have hl : (subs p).length ≤ 100000 := by omega
  unfold m_p_lots_of b_p_lots_of
  simp only [e] at hc
  simp [iLs, lLc, ev_parted p h, hl, sSeq, sAsg, sAsgL, sRet, sDrop, sIf, sNext, mVar, mC, lNil, lCons, lLst, mTup, rX, rVar, look, fzL, m1, l1, mOp, mIx, mCall, tX, tAn, tOrr, tNo, tTrue, mIf, mAn, mOrr, mNo, mNeg, bName, bTup, bTupL, bCons, bNil, items, fLen, fTuple, fit_ok, isL, start0, runP, wpG, mSl, lSl, oX, oNo]
  simp only [List.map_map] at hc
  rw [hc]
  have := fSortT_eL hn
  simp only [List.map_map] at this
  simp [this, lots]
end Tst


namespace Tst
open PySem PySem.Spec PyProof.Rows L2 MM LM
variable [Tb]
/-- a comprehension that looks and leaves out -/
theorem comp_filter {b : MB} {t : MT} {m : MX} {vs : List Nat} {Γ : Ga} {α : Type} {f : α → PyData} {g : α → PyData} {p : α → Bool} : ∀ ds : List α, (∀ d ∈ ds, ∃ Γ1, b (f d) Γ = some Γ1 ∧ t Γ1 = some (p d, Γ1) ∧ wpG Γ1 vs = Γ ∧ m Γ1 = some (g d, Γ1)) → compGo any_ b t m vs (ds.map f) Γ = some ((ds.filter p).map g, Γ)
  | [], _ => by
    rw [List.map_nil, compGo, if_pos (show any_ Γ from trivial)]
    rfl
  | d :: ds, h => by
    obtain ⟨Γ1, h1, h2, h3, h4⟩ := h d (List.mem_cons_self ..)
    have ih := comp_filter ds fun e m => h e (List.mem_cons_of_mem _ m)
    rw [List.map_cons, compGo, if_pos (show any_ Γ from trivial), h1]
    cases c : p d with
    | true => simp only [Option.bind_some, h2, c, if_true, h4, h3, ih, List.filter_cons, List.map_cons]
    | false => simp only [Option.bind_some, h2, c, Bool.false_eq_true, if_false, h3, ih, List.filter_cons]
/-! ### lots by their lengths -/
def byLen (L : List (List Nat)) : List (List Nat) := L.mergeSort fun a b => decide (a.length ≤ b.length)
theorem byLen_perm (L : List (List Nat)) : (byLen L).Perm L := List.mergeSort_perm L _
theorem byLen_pw (L : List (List Nat)) : (byLen L).Pairwise fun a b => a.length ≤ b.length := by
  have h := List.pairwise_mergeSort (le := fun a b : List Nat => decide (a.length ≤ b.length)) (fun a b c h k => by simp at h k ⊢; omega) (fun a b => by simp; omega) L
  exact h.imp fun h => by simpa using h
theorem nss_eL (L : List (List Nat)) : nssOf (L.map eL) = some (L.map fun l => l.map fun (n : Nat) => (n : Int)) := by
  induction L with
  | nil => rfl
  | cons l L ih => simp only [List.map_cons, eL, nssOf, ints_eI, Option.bind_some] at ih ⊢; rw [ih]; rfl
theorem fSortLen_eL (L : List (List Nat)) : fSortLen (.tuple (L.map eL)) = some ((byLen L).map eL) := by
  have e : sortLn (L.map fun l => l.map fun (n : Nat) => (n : Int)) = (byLen L).map fun l => l.map fun (n : Nat) => (n : Int) := by
    unfold sortLn byLen
    rw [PySem.W.dataLe_int (fun ns : List Int => (ns.length : Int)), List.map_mergeSort]
    intro a _ b _
    simp
  simp only [fSortLen, itemsD, Option.bind_some, nss_eL, e, List.map_map]
  congr 1
  refine List.map_congr_left fun l _ => ?_
  simp [tupN, eL, eI]
theorem tops_len {P : Pl → Bool} : ∀ p : Pl, (tops P p).length ≤ (leaves p).length
  | .leaf s => by unfold tops; split <;> simp [leaves]
  | .node a b => by
    have h1 := tops_len (P := P) a
    have h2 := tops_len (P := P) b
    have h3 := leaves_pos a
    unfold tops
    split
    · simp only [leaves, List.length_cons, List.length_nil, List.length_append]; omega
    · simp only [leaves, List.length_append]; omega
/-! ### plan_by_lots -/
abbrev ke (n : Nat) : L2.Key := .inl (n : Int)
theorem ke_inj : ∀ i j, ke i = ke j → i = j := fun i j e => by
  have := Sum.inl.inj e
  omega
abbrev pr2 (a b : PyData) : PyData := .tuple [a, b]
noncomputable def pblBody : MS := sSeq (sAsg (fzL (lLc (iTp (mVar 2)) (bName 7) (tX (mInD false (mVar 7) 1)) (mVar 7) [7])) (bName 3))
  (sIf (tTru (rX (mVar 3))) (sSeq (sAsg (mVar 3) (bTupL 2 (bCons (bName 4) (bCons (bName 5) bNil))))
  (sSeq (sAsg (mDPopK 1 (mVar 5)) (bName 6))
  (sDPt 1 (mVar 4) (mTup (lCons (mDGet 1 (mVar 4)) (lCons (mVar 6) lNil)))))) (sDPt 1 (mIx (rX (mVar 2)) (mC (.int 0))) (mIx (rX (mVar 2)) (mC (.int 0)))))
theorem pbl_comp (D : List (L2.Key × PyData)) (l : List Nat) (v c2 c3 c4 c5 c6 : Cell) : compGo any_ (bName 7) (tX (mInD false (mVar 7) 1)) (mVar 7) [7] (l.map eI) [v, .dK D, c2, c3, c4, c5, c6, .no] =
    some ((l.filter fun s => (dget D (ke s)).isSome).map eI, [v, .dK D, c2, c3, c4, c5, c6, .no]) := by
  refine comp_filter (p := fun s => (dget D (ke s)).isSome) l fun s m => ⟨[v, .dK D, c2, c3, c4, c5, c6, .dat (eI s)], by simp [bName], ?_, by simp [wpG], by simp [mVar]⟩
  have : askD [v, .dK D, c2, c3, c4, c5, c6, .dat (eI s)] 1 (eI s) = some (dget D (ke s)) := rfl
  simp [mInD, this, sSeq, sAsg, sAsgL, sRet, sDrop, sIf, sNext, mVar, mC, lNil, lCons, lLst, mTup, rX, rVar, look, fzL, m1, l1, mOp, mIx, mCall, tX, tAn, tOrr, tNo, tTrue, mIf, mAn, mOrr, mNo, mNeg, bName, bTup, bTupL, bCons, bNil, items, fLen, fTuple, fit_ok, isL, start0, runP, wpG, mSl, lSl, oX, oNo]
theorem pbl_step {p x : Pl} {S : List (List Nat)} {D : List (L2.Key × PyData)} (hn : Next p x S) (hp : (leaves p).length ≤ 1000) (hD : D.Perm (dic (kfm ke) (vfm eP) (done S) p)) (v c3 c4 c5 c6 : Cell) :
    ∃ D' d3 d4 d5 d6, pblBody [v, .dK D, .dat (eL (lot x)), c3, c4, c5, c6, .no] = some (.nx, [v, .dK D', .dat (eL (lot x)), d3, d4, d5, d6, .no]) ∧ D'.Perm (dic (kfm ke) (vfm eP) (done (S ++ [lot x])) p) := by
  have hl : (lot x).length ≤ 100000 := by
    rw [lot_len]
    rcases sub_len hn.sub with rfl | e <;> omega
  have hDl : D.length ≤ 1000 := by
    rw [hD.length_eq]
    unfold dic
    rw [List.length_map]
    exact Nat.le_trans (tops_len p) hp
  rcases prog_step (ev := eP) (pr := pr2) ke_inj (fun _ _ => rfl) hn hD with ⟨s, rfl, es, h1, h2⟩ | ⟨k1, k2, v1, v2, h1, h2, h3, h4⟩
  · refine ⟨_, .dat (.list []), c4, c5, c6, ?_, h2⟩
    unfold pblBody
    have hc := pbl_comp D (lot (.leaf s)) v (.dat (eL (lot (.leaf s)))) c3 c4 c5 c6
    rw [h1] at hc
    have hg : eL (lot (.leaf s)) = .tuple ((lot (.leaf s)).map eI) := rfl
    have hf : D.length ≤ 100000 := by omega
    simp [lLc, iTp, hg, hl, -List.map_map, sSeq, sAsg, sAsgL, sRet, sDrop, sIf, sNext, mVar, mC, lNil, lCons, lLst, mTup, rX, rVar, look, fzL, m1, l1, mOp, mIx, mCall, tX, tAn, tOrr, tNo, tTrue, mIf, mAn, mOrr, mNo, mNeg, bName, bTup, bTupL, bCons, bNil, items, fLen, fTuple, fit_ok, isL, start0, runP, wpG, mSl, lSl, oX, oNo]
    rw [← hg, hc]
    simp [tTru, truD, sDPt, isDc, key1, hf, fIx, atI, ixN, es, eL, eI, sSeq, sAsg, sAsgL, sRet, sDrop, sIf, sNext, mVar, mC, lNil, lCons, lLst, mTup, rX, rVar, look, fzL, m1, l1, mOp, mIx, mCall, tX, tAn, tOrr, tNo, tTrue, mIf, mAn, mOrr, mNo, mNeg, bName, bTup, bTupL, bCons, bNil, items, fLen, fTuple, fit_ok, isL, start0, runP, wpG, mSl, lSl, oX, oNo]
    rfl
  · refine ⟨_, .dat (.list [eI k1, eI k2]), .dat (eI k1), .dat (eI k2), .dat v2, ?_, h4⟩
    unfold pblBody
    have hc := pbl_comp D (lot x) v (.dat (eL (lot x))) c3 c4 c5 c6
    rw [h1] at hc
    have hg : eL (lot x) = .tuple ((lot x).map eI) := rfl
    have hf : (ddrop D (ke k2)).length ≤ 100000 := Nat.le_trans (List.length_filter_le _ _) (by omega)
    have q2 : getD' D (.inl (k2 : Int)) = some v2 := h2
    have q3 : getD' (dropD D (.inl (k2 : Int))) (.inl (k1 : Int)) = some v1 := h3
    have hf' : (dropD D (.inl (k2 : Int))).length ≤ 100000 := hf
    simp [lLc, iTp, hg, hl, -List.map_map, sSeq, sAsg, sAsgL, sRet, sDrop, sIf, sNext, mVar, mC, lNil, lCons, lLst, mTup, rX, rVar, look, fzL, m1, l1, mOp, mIx, mCall, tX, tAn, tOrr, tNo, tTrue, mIf, mAn, mOrr, mNo, mNeg, bName, bTup, bTupL, bCons, bNil, items, fLen, fTuple, fit_ok, isL, start0, runP, wpG, mSl, lSl, oX, oNo]
    rw [← hg, hc]
    simp [tTru, truD, sDPt, isDc, isDK, mDPopK, mDGet, askD, key1, q2, q3, hf', eI, sSeq, sAsg, sAsgL, sRet, sDrop, sIf, sNext, mVar, mC, lNil, lCons, lLst, mTup, rX, rVar, look, fzL, m1, l1, mOp, mIx, mCall, tX, tAn, tOrr, tNo, tTrue, mIf, mAn, mOrr, mNo, mNeg, bName, bTup, bTupL, bCons, bNil, items, fLen, fTuple, fit_ok, isL, start0, runP, wpG, mSl, lSl, oX, oNo]
    rfl
theorem pbl_go {p : Pl} {L : List (List Nat)} (nd : (leaves p).Nodup) (hp : (leaves p).length ≤ 1000) (hL : L.Perm ((subs p).map lot)) (hs : L.Pairwise fun a b => a.length ≤ b.length) (v : Cell) :
    ∀ (rest S : List (List Nat)) (D : List (L2.Key × PyData)) (c2 c3 c4 c5 c6 : Cell), L = S ++ rest → D.Perm (dic (kfm ke) (vfm eP) (done S) p) →
      ∃ D' d2 d3 d4 d5 d6, forGo (bName 2) pblBody (rest.map eL) [v, .dK D, c2, c3, c4, c5, c6, .no] = some (.nx, [v, .dK D', d2, d3, d4, d5, d6, .no]) ∧ D'.Perm (dic (kfm ke) (vfm eP) (done L) p)
  | [], S, D, c2, c3, c4, c5, c6, e, hD => ⟨D, c2, c3, c4, c5, c6, rfl, by rw [e, List.append_nil]; exact hD⟩
  | l :: rest, S, D, c2, c3, c4, c5, c6, e, hD => by
    obtain ⟨x, rfl, hn⟩ := next_of nd hL hs e
    obtain ⟨D1, d3, d4, d5, d6, h1, h2⟩ := pbl_step hn hp hD v c3 c4 c5 c6
    obtain ⟨D2, f2, f3, f4, f5, f6, h3, h4⟩ := pbl_go nd hp hL hs v rest (S ++ [lot x]) D1 (.dat (eL (lot x))) d3 d4 d5 d6 (by rw [e]; simp) h2
    refine ⟨D2, f2, f3, f4, f5, f6, ?_, h4⟩
    rw [List.map_cons, forGo]
    simp only [bName, List.length_cons, List.length_nil, show (2 : Nat) < 0 + 1 + 1 + 1 + 1 + 1 + 1 + 1 + 1 by decide, if_true, Option.bind_some]
    rw [show ([v, Cell.dK D, c2, c3, c4, c5, c6, Cell.no].set 2 (Cell.dat (eL (lot x)))) = [v, .dK D, .dat (eL (lot x)), c3, c4, c5, c6, .no] from rfl, h1]
    exact h3
theorem ev_plan_by_lots {p : Pl} (nd : (leaves p).Nodup) (hp : (leaves p).length ≤ 1000) {L : List (List Nat)} (hL : L.Perm ((subs p).map lot)) : m_p_plan_by_lots [.tuple (L.map eL)] = some (eP (formed p)) := by
  have hB := (byLen_perm L).trans hL
  obtain ⟨D, d2, d3, d4, d5, d6, h1, h2⟩ := pbl_go nd hp hB (byLen_pw L) (.dat (.tuple (L.map eL))) (byLen L) [] [] .no .no .no .no .no rfl (by rw [dic_nil])
  have h3 := dic_all (hB.mem_iff.mpr (List.mem_map.mpr ⟨p, self_sub p, rfl⟩)) h2
  subst h3
  unfold m_p_plan_by_lots b_p_plan_by_lots
  simp [sNewK, sFor, iLs, fSortLen_eL, -List.map_map, sSeq, sAsg, sAsgL, sRet, sDrop, sIf, sNext, mVar, mC, lNil, lCons, lLst, mTup, rX, rVar, look, fzL, m1, l1, mOp, mIx, mCall, tX, tAn, tOrr, tNo, tTrue, mIf, mAn, mOrr, mNo, mNeg, bName, bTup, bTupL, bCons, bNil, items, fLen, fTuple, fit_ok, isL, start0, runP, wpG, mSl, lSl, oX, oNo]
  rw [show (sSeq (sAsg (fzL (lLc (iTp (mVar 2)) (bName 7) (tX (mInD false (mVar 7) 1)) (mVar 7) [7])) (bName 3))
  (sIf (tTru (rX (mVar 3))) (sSeq (sAsg (mVar 3) (bTupL 2 (bCons (bName 4) (bCons (bName 5) bNil))))
  (sSeq (sAsg (mDPopK 1 (mVar 5)) (bName 6))
  (sDPt 1 (mVar 4) (mTup (lCons (mDGet 1 (mVar 4)) (lCons (mVar 6) lNil)))))) (sDPt 1 (mIx (rX (mVar 2)) (mC (.int 0))) (mIx (rX (mVar 2)) (mC (.int 0)))))) = pblBody from rfl]
  simp only [h1, Option.bind_some]
  have hk : getD' [(ke (lmin p), eP (formed p))] (.inl (lmin p : Int)) = some (eP (formed p)) := by simp [getD']
  simp [mDGet, isDc, lKeysK, unkey, fMinL, intsOf, askD, key1, hk, sSeq, sAsg, sAsgL, sRet, sDrop, sIf, sNext, mVar, mC, lNil, lCons, lLst, mTup, rX, rVar, look, fzL, m1, l1, mOp, mIx, mCall, tX, tAn, tOrr, tNo, tTrue, mIf, mAn, mOrr, mNo, mNeg, bName, bTup, bTupL, bCons, bNil, items, fLen, fTuple, fit_ok, isL, start0, runP, wpG, mSl, lSl, oX, oNo]
theorem ev_formed {p : Pl} (nd : (leaves p).Nodup) (hp : (leaves p).length ≤ 1000) : m_p_formed [eP p] = some (eP (formed p)) := by
  unfold m_p_formed b_p_formed
  simp [ev_lots_of p hp, ev_plan_by_lots nd hp (srt_perm _), lots, sSeq, sAsg, sAsgL, sRet, sDrop, sIf, sNext, mVar, mC, lNil, lCons, lLst, mTup, rX, rVar, look, fzL, m1, l1, mOp, mIx, mCall, tX, tAn, tOrr, tNo, tTrue, mIf, mAn, mOrr, mNo, mNeg, bName, bTup, bTupL, bCons, bNil, items, fLen, fTuple, fit_ok, isL, start0, runP, wpG, mSl, lSl, oX, oNo]
theorem ev_plan_of {p : Pl} (n : Int) (nd : (leaves p).Nodup) (hp : (leaves p).length ≤ 1000) {L : List (List Nat)} (hL : L.Perm ((subs p).map lot)) : m_p_plan_of [.int n, .tuple (L.map eL)] = some (eP (formed p)) := by
  unfold m_p_plan_of b_p_plan_of
  simp [ev_plan_by_lots nd hp hL, sSeq, sAsg, sAsgL, sRet, sDrop, sIf, sNext, mVar, mC, lNil, lCons, lLst, mTup, rX, rVar, look, fzL, m1, l1, mOp, mIx, mCall, tX, tAn, tOrr, tNo, tTrue, mIf, mAn, mOrr, mNo, mNeg, bName, bTup, bTupL, bCons, bNil, items, fLen, fTuple, fit_ok, isL, start0, runP, wpG, mSl, lSl, oX, oNo]
end Tst


namespace Tst
open PySem PySem.Spec PyProof.Rows L2 MM LM
variable [Tb]
theorem bools_map (L : List Bool) : boolsOf (L.map PyData.bool) = some L := by
  induction L with
  | nil => rfl
  | cons b L ih => simp only [List.map_cons, boolsOf, ih]; rfl
theorem fAll_map {α : Type} (l : List α) (f : α → Bool) : fAll (.list (l.map fun x => .bool (f x))) = some (.bool (l.all f)) := by
  have : l.map (fun x => PyData.bool (f x)) = (l.map f).map .bool := by rw [List.map_map]; rfl
  simp only [fAll, this, bools_map, Option.bind_some]
  congr 2
  rw [List.all_map]
  rfl
theorem fAny_map {α : Type} (l : List α) (f : α → Bool) : fAny (.list (l.map fun x => .bool (f x))) = some (.bool (l.any f)) := by
  have : l.map (fun x => PyData.bool (f x)) = (l.map f).map .bool := by rw [List.map_map]; rfl
  simp only [fAny, this, bools_map, Option.bind_some]
  congr 2
  rw [List.any_map]
  rfl
theorem cut_from (ds : List PyData) : MM.cutD ds (some 1) none = ds.drop 1 := by
  unfold MM.cutD HT.sIx
  cases ds with
  | nil => rfl
  | cons d ds => simp
theorem cut_to (ds : List PyData) : MM.cutD ds none (some 1) = ds.take 1 := by
  unfold MM.cutD HT.sIx
  cases ds with
  | nil => rfl
  | cons d ds => simp
theorem zip_map {α : Type} (f : α → PyData) (l : List α) : zipD (l.map f) ((l.map f).drop 1) = (l.zip (l.drop 1)).map fun p => .tuple [f p.1, f p.2] := by
  unfold zipD
  rw [← List.map_drop, List.zipWith_map, List.zip_eq_zipWith, List.map_zipWith]
theorem adj_all {α : Type} (r : α → α → Bool) : ∀ l : List α, l.Pairwise (fun a b => r a b = true) → ((l.zip (l.drop 1)).all fun p => r p.1 p.2) = true
  | [], _ => rfl
  | [a], _ => rfl
  | a :: b :: l, h => by
    obtain ⟨h1, h2⟩ := List.pairwise_cons.mp h
    have ih := adj_all r (b :: l) h2
    simp only [List.drop_succ_cons, List.drop_zero, List.zip_cons_cons, List.all_cons] at ih ⊢
    rw [h1 b (List.mem_cons_self ..), ih]
    rfl
theorem lexLt_cast : ∀ a b : List Nat, HT.lexLt (a.map fun (n : Nat) => (n : Int)) (b.map fun (n : Nat) => (n : Int)) = lx a b
  | [], [] => rfl
  | [], _ :: _ => rfl
  | _ :: _, [] => rfl
  | x :: a, y :: b => by
    simp only [List.map_cons, HT.lexLt, lx, lexLt_cast a b]
    by_cases c : x = y
    · subst c; simp
    · have : ¬ (x : Int) = y := fun e => c (by omega)
      rw [if_neg this, if_neg c]
      by_cases d : x < y <;> simp [d]
theorem fLtT_eL (a b : List Nat) : fLtT (eL a) (eL b) = some (.bool (lx a b)) := by
  simp [fLtT, eL, ints_eI, lexLt_cast]
/-! ### lots are lots -/
theorem ev_is_number (i : Int) : m_p_is_number [.int i] = some (.bool true) := by
  unfold m_p_is_number b_p_is_number
  simp [mIsi, isi_int_int, isi_int_bool, sSeq, sAsg, sAsgL, sRet, sDrop, sIf, sNext, mVar, mC, lNil, lCons, lLst, mTup, rX, rVar, look, fzL, m1, l1, mOp, mIx, mCall, tX, tAn, tOrr, tNo, tTrue, mIf, mAn, mOrr, mNo, mNeg, bName, bTup, bTupL, bCons, bNil, items, fLen, fTuple, fit_ok, isL, start0, runP, wpG, mSl, lSl, oX, oNo]
theorem atI_last {α : Type} (f : α → PyData) (l : List α) (a : α) : atI ((l ++ [a]).map f) (-1) = some (f a) := by
  simp only [atI, ixN]
  rw [if_neg (by decide), if_pos (by simp; omega)]
  have : (-1 + ((((l ++ [a]).map f).length : Nat) : Int)).toNat = l.length := by simp; omega
  rw [Option.bind_some, this]
  simp
theorem sh_eL (l : List Nat) : Sh 1 (eL l) := Sh.tup fun d m => by
  obtain ⟨n, _, rfl⟩ := List.mem_map.mp m
  exact Sh.int _ _
theorem eL_nil {l : List Nat} (h : l ≠ []) : fEq false (eL l) (.tuple []) = some (.bool false) := by
  rw [fEq_sh (sh_eL l) (Sh.tup (k := 0) (ds := []) fun d m => nomatch m) (by decide) (by decide)]
  have : ¬ eL l = .tuple [] := fun e => by
    unfold eL at e
    cases l with
    | nil => exact h rfl
    | cons a l => cases e
  simp [this]
theorem zip_num (l : List Nat) (h : Asc l) : ((l.zip (l.drop 1)).all fun p => decide (p.1 < p.2)) = true := by
  have := adj_all (fun a b : Nat => decide (a < b)) l (h.imp fun h => by simp; omega)
  exact this
theorem ev_is_lot {n : Nat} {l : List Nat} (h : IsLot n l) (hl : l.length ≤ 1000) : m_p_is_lot [.int n, eL l] = some (.bool true) := by
  have hf : l.length ≤ 100000 := by omega
  have c1 : ∀ v w : Cell, compGo any_ (bName 5) tTrue (mCall m_p_is_number (lCons (mVar 5) lNil)) [5] (l.map eI) [v, w, .no, .no, .no, .no] = some (l.map fun _ => .bool true, [v, w, .no, .no, .no, .no]) := fun v w =>
    comp_map l fun s m => ⟨[v, w, .no, .no, .no, .dat (eI s)], [v, w, .no, .no, .no, .dat (eI s)], by simp [bName], rfl, by simp [eI, ev_is_number, sSeq, sAsg, sAsgL, sRet, sDrop, sIf, sNext, mVar, mC, lNil, lCons, lLst, mTup, rX, rVar, look, fzL, m1, l1, mOp, mIx, mCall, tX, tAn, tOrr, tNo, tTrue, mIf, mAn, mOrr, mNo, mNeg, bName, bTup, bTupL, bCons, bNil, items, fLen, fTuple, fit_ok, isL, start0, runP, wpG, mSl, lSl, oX, oNo], by simp [wpG]⟩
  have c2 : ∀ v w : Cell, compGo any_ (bTup 2 (bCons (bName 3) (bCons (bName 4) bNil))) tTrue (mOp fLt (mVar 3) (mVar 4)) [3, 4] ((l.zip (l.drop 1)).map fun p => .tuple [eI p.1, eI p.2]) [v, w, .no, .no, .no, .no] = some ((l.zip (l.drop 1)).map fun p => .bool (decide (p.1 < p.2)), [v, w, .no, .no, .no, .no]) := fun v w =>
    comp_map _ fun p m => ⟨[v, w, .no, .dat (eI p.1), .dat (eI p.2), .no], [v, w, .no, .dat (eI p.1), .dat (eI p.2), .no], by simp [sSeq, sAsg, sAsgL, sRet, sDrop, sIf, sNext, mVar, mC, lNil, lCons, lLst, mTup, rX, rVar, look, fzL, m1, l1, mOp, mIx, mCall, tX, tAn, tOrr, tNo, tTrue, mIf, mAn, mOrr, mNo, mNeg, bName, bTup, bTupL, bCons, bNil, items, fLen, fTuple, fit_ok, isL, start0, runP, wpG, mSl, lSl, oX, oNo], rfl, by simp [eI, fLt, fInt, sSeq, sAsg, sAsgL, sRet, sDrop, sIf, sNext, mVar, mC, lNil, lCons, lLst, mTup, rX, rVar, look, fzL, m1, l1, mOp, mIx, mCall, tX, tAn, tOrr, tNo, tTrue, mIf, mAn, mOrr, mNo, mNeg, bName, bTup, bTupL, bCons, bNil, items, fLen, fTuple, fit_ok, isL, start0, runP, wpG, mSl, lSl, oX, oNo], by simp [wpG]⟩
  have z1 : (l.zip (l.drop 1)).length ≤ 100000 := by rw [List.length_zip]; omega
  obtain ⟨a, l', rfl⟩ := List.exists_cons_of_ne_nil h.ne
  have a1 : atI ((a :: l').map eI) 0 = some (eI a) := by simp [atI, ixN]
  obtain ⟨b, l2, e2⟩ : ∃ b l2, a :: l' = l2 ++ [b] := ⟨(a :: l').getLast h.ne, (a :: l').dropLast, (List.dropLast_concat_getLast h.ne).symm⟩
  have a2 : atI ((a :: l').map eI) (-1) = some (eI b) := by rw [e2, atI_last]
  have bn : b < n := h.lt b (by rw [e2]; simp)
  have hz := zip_map eI (a :: l')
  have hA := fAll_map ((a :: l').zip ((a :: l').drop 1)) fun p => decide (p.1 < p.2)
  rw [zip_num _ h.asc] at hA
  have hA1 := fAll_map (a :: l') fun _ => true
  rw [List.all_eq_true.mpr (fun _ _ => rfl)] at hA1
  have hne := eL_nil h.ne
  unfold m_p_is_lot b_p_is_lot
  generalize hg : (a :: l') = L at *
  have hd : eL L = .tuple (L.map eI) := rfl
  rw [hd] at hne ⊢
  have z2 : L.length - 1 ≤ 100000 := by omega
  have g1 : fGe (eI a) (.int 0) = some (.bool true) := by simp [fGe, fInt, eI]
  have g2 : fLt (eI b) (.int (n : Int)) = some (.bool true) := by simp [fLt, fInt, eI]; omega
  simp [mIsi, isi_tup_tup, hne, iTp, iZp, lLc, hf, c1, c2, hA, hA1, cut_from, z1, z2, fIx, a1, a2, g1, g2, hz, -List.map_map, -List.map_drop, -List.drop_one, sSeq, sAsg, sAsgL, sRet, sDrop, sIf, sNext, mVar, mC, lNil, lCons, lLst, mTup, rX, rVar, look, fzL, m1, l1, mOp, mIx, mCall, tX, tAn, tOrr, tNo, tTrue, mIf, mAn, mOrr, mNo, mNeg, bName, bTup, bTupL, bCons, bNil, items, fLen, fTuple, fit_ok, isL, start0, runP, wpG, mSl, lSl, oX, oNo]
end Tst


namespace Tst
open PySem PySem.Spec PyProof.Rows L2 MM LM
variable [Tb]
theorem ev_law_is_lot {n : Nat} {l : List Nat} (h : IsLot n l) (hl : l.length ≤ 1000) : m_is_lot [.int n, eL l] = some (.bool true) := by
  have hf : l.length ≤ 100000 := by omega
  have c1 : ∀ v w : Cell, compGo any_ (bName 2) tTrue (mOrr (mIsi "bool" (mVar 2)) (mNo (mIsi "int" (mVar 2)))) [2] (l.map eI) [v, w, .no, .no] = some (l.map fun _ => .bool false, [v, w, .no, .no]) := fun v w =>
    comp_map l fun s m => ⟨[v, w, .dat (eI s), .no], [v, w, .dat (eI s), .no], by simp [bName], rfl, by simp [eI, mIsi, isi_int_bool, isi_int_int, sSeq, sAsg, sAsgL, sRet, sDrop, sIf, sNext, mVar, mC, lNil, lCons, lLst, mTup, rX, rVar, look, fzL, m1, l1, mOp, mIx, mCall, tX, tAn, tOrr, tNo, tTrue, mIf, mAn, mOrr, mNo, mNeg, bName, bTup, bTupL, bCons, bNil, items, fLen, fTuple, fit_ok, isL, start0, runP, wpG, mSl, lSl, oX, oNo], by simp [wpG]⟩
  have c2 : ∀ v w : Cell, compGo any_ (bTup 2 (bCons (bName 2) (bCons (bName 3) bNil))) tTrue (mOp fLt (mVar 2) (mVar 3)) [2, 3] ((l.zip (l.drop 1)).map fun p => .tuple [eI p.1, eI p.2]) [v, w, .no, .no] = some ((l.zip (l.drop 1)).map fun p => .bool (decide (p.1 < p.2)), [v, w, .no, .no]) := fun v w =>
    comp_map _ fun p m => ⟨[v, w, .dat (eI p.1), .dat (eI p.2)], [v, w, .dat (eI p.1), .dat (eI p.2)], by simp [sSeq, sAsg, sAsgL, sRet, sDrop, sIf, sNext, mVar, mC, lNil, lCons, lLst, mTup, rX, rVar, look, fzL, m1, l1, mOp, mIx, mCall, tX, tAn, tOrr, tNo, tTrue, mIf, mAn, mOrr, mNo, mNeg, bName, bTup, bTupL, bCons, bNil, items, fLen, fTuple, fit_ok, isL, start0, runP, wpG, mSl, lSl, oX, oNo], rfl, by simp [eI, fLt, fInt, sSeq, sAsg, sAsgL, sRet, sDrop, sIf, sNext, mVar, mC, lNil, lCons, lLst, mTup, rX, rVar, look, fzL, m1, l1, mOp, mIx, mCall, tX, tAn, tOrr, tNo, tTrue, mIf, mAn, mOrr, mNo, mNeg, bName, bTup, bTupL, bCons, bNil, items, fLen, fTuple, fit_ok, isL, start0, runP, wpG, mSl, lSl, oX, oNo], by simp [wpG]⟩
  have z1 : (l.zip (l.drop 1)).length ≤ 100000 := by rw [List.length_zip]; omega
  obtain ⟨a, l', rfl⟩ := List.exists_cons_of_ne_nil h.ne
  have a1 : atI ((a :: l').map eI) 0 = some (eI a) := by simp [atI, ixN]
  obtain ⟨b, l2, e2⟩ : ∃ b l2, a :: l' = l2 ++ [b] := ⟨(a :: l').getLast h.ne, (a :: l').dropLast, (List.dropLast_concat_getLast h.ne).symm⟩
  have a2 : atI ((a :: l').map eI) (-1) = some (eI b) := by rw [e2, atI_last]
  have bn : b < n := h.lt b (by rw [e2]; simp)
  have hz := zip_map eI (a :: l')
  have hA := fAll_map ((a :: l').zip ((a :: l').drop 1)) fun p => decide (p.1 < p.2)
  rw [zip_num _ h.asc] at hA
  have hA1 := fAny_map (a :: l') fun _ => false
  rw [List.any_eq_false.mpr (fun _ _ => by simp)] at hA1
  have hne := eL_nil h.ne
  unfold m_is_lot b_is_lot
  generalize hg : (a :: l') = L at *
  have hd : eL L = .tuple (L.map eI) := rfl
  rw [hd] at hne ⊢
  have z2 : L.length - 1 ≤ 100000 := by omega
  have g1 : fGe (eI a) (.int 0) = some (.bool true) := by simp [fGe, fInt, eI]
  have g2 : fLt (eI b) (.int (n : Int)) = some (.bool true) := by simp [fLt, fInt, eI]; omega
  simp [mIsi, isi_tup_tup, hne, iTp, iZp, lLc, hf, c1, c2, hA, hA1, cut_from, z1, z2, fIx, a1, a2, g1, g2, hz, -List.map_map, -List.map_drop, -List.drop_one, sSeq, sAsg, sAsgL, sRet, sDrop, sIf, sNext, mVar, mC, lNil, lCons, lLst, mTup, rX, rVar, look, fzL, m1, l1, mOp, mIx, mCall, tX, tAn, tOrr, tNo, tTrue, mIf, mAn, mOrr, mNo, mNeg, bName, bTup, bTupL, bCons, bNil, items, fLen, fTuple, fit_ok, isL, start0, runP, wpG, mSl, lSl, oX, oNo]
/-! ### crossing -/
theorem band_nat (a b : Nat) : Builtin.bitAnd (a : Int) (b : Int) = ((a &&& b : Nat) : Int) := by simp [Builtin.bitAnd]
theorem ev_cross (a b : List Nat) : m_p_cross [.int (mask a : Nat), .int (mask b : Nat)] = some (.bool (crossM a b)) := by
  unfold m_p_cross b_p_cross
  simp only [crossM]
  generalize mask a = x
  generalize mask b = y
  by_cases c1 : x &&& y = 0
  · simp [fBand, fInt, band_nat, fEq_int, c1, sSeq, sAsg, sAsgL, sRet, sDrop, sIf, sNext, mVar, mC, lNil, lCons, lLst, mTup, rX, rVar, look, fzL, m1, l1, mOp, mIx, mCall, tX, tAn, tOrr, tNo, tTrue, mIf, mAn, mOrr, mNo, mNeg, bName, bTup, bTupL, bCons, bNil, items, fLen, fTuple, fit_ok, isL, start0, runP, wpG, mSl, lSl, oX, oNo]
  · have c1' : ¬ ((x &&& y : Nat) : Int) = 0 := by omega
    by_cases c2 : x &&& y = x
    · have c2' : ((x &&& y : Nat) : Int) = x := by omega
      simp [fBand, fInt, band_nat, fEq_int, c1', c2', c1, c2, sSeq, sAsg, sAsgL, sRet, sDrop, sIf, sNext, mVar, mC, lNil, lCons, lLst, mTup, rX, rVar, look, fzL, m1, l1, mOp, mIx, mCall, tX, tAn, tOrr, tNo, tTrue, mIf, mAn, mOrr, mNo, mNeg, bName, bTup, bTupL, bCons, bNil, items, fLen, fTuple, fit_ok, isL, start0, runP, wpG, mSl, lSl, oX, oNo]
    · have c2' : ¬ ((x &&& y : Nat) : Int) = x := by omega
      by_cases c3 : x &&& y = y
      · have c3' : ((x &&& y : Nat) : Int) = y := by omega
        simp [fBand, fInt, band_nat, fEq_int, c1', c2', c3', c1, c2, c3, sSeq, sAsg, sAsgL, sRet, sDrop, sIf, sNext, mVar, mC, lNil, lCons, lLst, mTup, rX, rVar, look, fzL, m1, l1, mOp, mIx, mCall, tX, tAn, tOrr, tNo, tTrue, mIf, mAn, mOrr, mNo, mNeg, bName, bTup, bTupL, bCons, bNil, items, fLen, fTuple, fit_ok, isL, start0, runP, wpG, mSl, lSl, oX, oNo]
      · have c3' : ¬ ((x &&& y : Nat) : Int) = y := by omega
        simp [fBand, fInt, band_nat, fEq_int, c1', c2', c3', c1, c2, c3, sSeq, sAsg, sAsgL, sRet, sDrop, sIf, sNext, mVar, mC, lNil, lCons, lLst, mTup, rX, rVar, look, fzL, m1, l1, mOp, mIx, mCall, tX, tAn, tOrr, tNo, tTrue, mIf, mAn, mOrr, mNo, mNeg, bName, bTup, bTupL, bCons, bNil, items, fLen, fTuple, fit_ok, isL, start0, runP, wpG, mSl, lSl, oX, oNo]
theorem any_eqv (b : List Nat) (s : Nat) : (b.map eI).any (fun z => PyData.eqv z (eI s)) = decide (s ∈ b) := by
  rw [List.any_map]
  by_cases c : s ∈ b
  · rw [decide_eq_true c]
    exact List.any_eq_true.mpr ⟨s, c, by simp [eI, PyData.eqv]⟩
  · rw [decide_eq_false c]
    refine List.any_eq_false.mpr fun x hx => ?_
    simp [eI, PyData.eqv]
    intro e
    have : x = s := by omega
    exact c (this ▸ hx)
theorem fIn_eL (b : List Nat) (s : Nat) : fIn false (eI s) (.tuple (b.map eI)) = some (.bool (decide (s ∈ b))) := by
  have h : (b.map eI).all flatD = true := by
    rw [List.all_map]
    exact List.all_eq_true.mpr fun x _ => rfl
  simp only [fIn, items, Option.bind_some]
  rw [if_pos ⟨rfl, h⟩]
  simp only [Bool.false_eq_true, if_false, any_eqv]
theorem ev_law_cross (a b : List Nat) (ha : a.length ≤ 1000) : m_cross [eL a, eL b] = some (.bool (crossB a b)) := by
  have hf : a.length ≤ 100000 := by omega
  have hc : ∀ v c, compGo any_ (bName 3) (tX (mIn (fIn false) (mVar 3) (rX (mVar 1)))) (mVar 3) [3] (a.map eI) [v, .dat (eL b), c, .no] = some ((a.filter fun s => decide (s ∈ b)).map eI, [v, .dat (eL b), c, .no]) := fun v c =>
    comp_filter (p := fun s => decide (s ∈ b)) a fun s m => ⟨[v, .dat (eL b), c, .dat (eI s)], by simp [bName], by
      have hd : eL b = .tuple (b.map eI) := rfl
      simp [mIn, hd, fIn_eL, -List.map_map, sSeq, sAsg, sAsgL, sRet, sDrop, sIf, sNext, mVar, mC, lNil, lCons, lLst, mTup, rX, rVar, look, fzL, m1, l1, mOp, mIx, mCall, tX, tAn, tOrr, tNo, tTrue, mIf, mAn, mOrr, mNo, mNeg, bName, bTup, bTupL, bCons, bNil, items, fLen, fTuple, fit_ok, isL, start0, runP, wpG, mSl, lSl, oX, oNo], by simp [wpG], by simp [mVar]⟩
  unfold m_cross b_cross
  have hd : ∀ x : List Nat, eL x = .tuple (x.map eI) := fun _ => rfl
  have hc1 := hc (.dat (eL a)) .no
  rw [hd a, hd b] at hc1 ⊢
  have hs : (a.filter fun s => decide (s ∈ b)).length = LM.shared a b := by
    unfold LM.shared
    congr
  obtain ⟨fl, hfl⟩ : ∃ fl, fl = a.filter fun s => decide (s ∈ b) := ⟨_, rfl⟩
  rw [← hfl] at hc1 hs
  unfold crossB
  rw [← hs]
  have n1 : fLen (.list (fl.map eI)) = some (.int (fl.length : Nat)) := by simp [fLen, items]
  have n2 : fLen (.tuple (a.map eI)) = some (.int (a.length : Nat)) := by simp [fLen, items]
  have n3 : fLen (.tuple (b.map eI)) = some (.int (b.length : Nat)) := by simp [fLen, items]
  generalize fl.length = k at n1 ⊢
  have cm : (if b.length < a.length then (b.length : Int) else a.length) = ((min a.length b.length : Nat) : Int) := by
    split <;> omega
  have e1 : fLt (.int 0) (.int (k : Nat)) = some (.bool (decide (0 < k))) := by simp [fLt, fInt]
  have e2 : fLt (.int (k : Nat)) (.int (if b.length < a.length then (b.length : Int) else a.length)) = some (.bool (decide (k < min a.length b.length))) := by
    rw [cm]
    simp only [fLt, fInt]
    congr 2
    simp
  generalize a.length = x at n2 e2 cm ⊢
  generalize b.length = y at n3 e2 cm ⊢
  by_cases c : 0 < k
  · simp [lLc, iTp, hf, hc1, mCh, n1, n2, n3, e1, e2, mmin2, m2, c, -List.map_map, sSeq, sAsg, sAsgL, sRet, sDrop, sIf, sNext, mVar, mC, lNil, lCons, lLst, mTup, rX, rVar, look, fzL, m1, l1, mOp, mIx, mCall, tX, tAn, tOrr, tNo, tTrue, mIf, mAn, mOrr, mNo, mNeg, bName, bTup, bTupL, bCons, bNil, fit_ok, isL, start0, runP, wpG, mSl, lSl, oX, oNo]
  · simp [lLc, iTp, hf, hc1, mCh, n1, n2, n3, e1, e2, mmin2, m2, c, -List.map_map, sSeq, sAsg, sAsgL, sRet, sDrop, sIf, sNext, mVar, mC, lNil, lCons, lLst, mTup, rX, rVar, look, fzL, m1, l1, mOp, mIx, mCall, tX, tAn, tOrr, tNo, tTrue, mIf, mAn, mOrr, mNo, mNeg, bName, bTup, bTupL, bCons, bNil, fit_ok, isL, start0, runP, wpG, mSl, lSl, oX, oNo]
theorem fSum_eI (l : List Nat) : fSum (.list (l.map eI)) = some (.int (l.sum : Nat)) := by
  simp only [fSum, ints_eI, Option.bind_some]
  congr 2
  induction l with
  | nil => rfl
  | cons a l ih => simp only [List.map_cons, List.sum_cons, ih]; omega
theorem ev_mask_of (l : List Nat) (hl : l.length ≤ 1000) (hs : ∀ s ∈ l, s ≤ 1000) : m_p_mask_of [eL l] = some (.int (mask l : Nat)) := by
  have hf : l.length ≤ 100000 := by omega
  have hc : ∀ v, compGo any_ (bName 1) tTrue (mOp fShl1 (mC (.int 1)) (mVar 1)) [1] (l.map eI) [v, .no] = some (l.map fun s => eI (2 ^ s), [v, .no]) := fun v =>
    comp_map l fun s m => ⟨[v, .dat (eI s)], [v, .dat (eI s)], by simp [bName], rfl, by
      have : (0 : Int) ≤ s ∧ (s : Int) ≤ 1000 := by have := hs s m; omega
      simp [fShl1, eI, this, sSeq, sAsg, sAsgL, sRet, sDrop, sIf, sNext, mVar, mC, lNil, lCons, lLst, mTup, rX, rVar, look, fzL, m1, l1, mOp, mIx, mCall, tX, tAn, tOrr, tNo, tTrue, mIf, mAn, mOrr, mNo, mNeg, bName, bTup, bTupL, bCons, bNil, items, fLen, fTuple, fit_ok, isL, start0, runP, wpG, mSl, lSl, oX, oNo], by simp [wpG]⟩
  unfold m_p_mask_of b_p_mask_of
  have hd : eL l = .tuple (l.map eI) := rfl
  rw [hd]
  have he : (l.map fun s => eI (2 ^ s)) = (l.map fun s => 2 ^ s).map eI := by rw [List.map_map]; rfl
  have h2 := fSum_eI (l.map fun s => 2 ^ s)
  rw [← he] at h2
  simp [lLc, iTp, hf, hc, h2, -List.map_map, sSeq, sAsg, sAsgL, sRet, sDrop, sIf, sNext, mVar, mC, lNil, lCons, lLst, mTup, rX, rVar, look, fzL, m1, l1, mOp, mIx, mCall, tX, tAn, tOrr, tNo, tTrue, mIf, mAn, mOrr, mNo, mNeg, bName, bTup, bTupL, bCons, bNil, items, fLen, fTuple, fit_ok, isL, start0, runP, wpG, mSl, lSl, oX, oNo]
  rfl
end Tst


namespace Tst
open PySem PySem.Spec PyProof.Rows L2 MM LM
variable [Tb]
theorem p62 : (2 : Int) ^ 62 = 4611686018427387904 := by rfl
theorem in62 (i : Int) (h : 0 ≤ i) (k : i ≤ 1000000) : -((2 : Int) ^ 62) ≤ i ∧ i < 2 ^ 62 := by
  rw [p62]
  omega
theorem iR2_nat {m n : MX} {Γ : Ga} {i j : Int} (h1 : m Γ = some (.int i, Γ)) (h2 : n Γ = some (.int j, Γ)) (hi : 0 ≤ i) (ki : i ≤ 1000000) (hj : 0 ≤ j) (kj : j ≤ 1000000) : iR2 m n Γ = some (intsD i (j - i).toNat, any_, Γ) := by
  simp only [iR2, h1, h2, Option.bind_some]
  rw [if_pos ⟨in62 i hi ki, in62 j hj kj⟩]
theorem iR1_nat {m : MX} {Γ : Ga} {j : Int} (h1 : m Γ = some (.int j, Γ)) (hj : 0 ≤ j) (kj : j ≤ 1000000) : iR1 m Γ = some (intsD 0 j.toNat, any_, Γ) := by
  simp only [iR1, h1, Option.bind_some]
  rw [if_pos ⟨(in62 j hj kj).2, (in62 j hj kj).1⟩]
/-! ### the first two that cross -/
def jR (m i : Nat) : List Nat := (List.range (m - (i + 1))).map fun k => i + 1 + k
def nth (V : List (List Nat)) (j : Nat) : List Nat := V.getD j []
def js (V : List (List Nat)) (i : Nat) (l : List Nat) : List Nat := (jR V.length i).filter fun j => crossB l (nth V j)
def fX (V : List (List Nat)) : List (List Nat × Nat) → Option (Nat × Nat)
  | [] => none
  | p :: r => match (js V p.2 p.1).head? with
    | some j => some (p.2, j)
    | none => fX V r
theorem jR_eq (m i : Nat) : intsD ((i : Int) + 1) (((m : Nat) : Int) - ((i : Int) + 1)).toNat = (jR m i).map eI := by
  have : (((m : Nat) : Int) - ((i : Int) + 1)).toNat = m - (i + 1) := by omega
  rw [this]
  unfold intsD jR
  rw [List.map_map]
  refine List.map_congr_left fun k _ => ?_
  simp [eI]
theorem jR_lt {m i j : Nat} (h : j ∈ jR m i) : j < m := by
  obtain ⟨k, hk, rfl⟩ := List.mem_map.mp h
  have := List.mem_range.mp hk
  omega
theorem enum_map {α : Type} (f : α → PyData) (l : List α) : enumD (l.map f) = l.zipIdx.map fun p => .tuple [eI p.2, f p.1] := by
  unfold enumD
  rw [List.zipIdx_map, List.map_map]
  rfl
theorem atI_map {α : Type} (f : α → PyData) (l : List α) (j : Nat) (d : α) (h : j < l.length) : atI (l.map f) (j : Int) = some (f (l.getD j d)) := by
  simp [atI, ixN, h]
noncomputable def innerP : MS := sIf (tX (mCall m_p_cross (lCons (mVar 3) (lCons (mIx (rX (mVar 1)) (mVar 4)) lNil)))) (sRet (mTup (lCons (mVar 2) (lCons (mVar 4) lNil)))) sNext
noncomputable def outerP : MS := sFor (iR2 (mOp fAdd (mVar 2) (mC (.int 1))) (m1 fLen (rX (mVar 1)))) (bName 4) innerP
/-- what lots have to be -/
structure Fine (n : Nat) (V : List (List Nat)) : Prop where
  lot : ∀ l ∈ V, IsLot n l
  few : V.length ≤ 1000
  small : n ≤ 1000
theorem Fine.len {n : Nat} {V : List (List Nat)} (h : Fine n V) : ∀ l ∈ V, l.length ≤ 1000 := fun l m => by
  have := nodup_len_le (b := List.range n) (h.lot l m).asc.nodup fun x hx => List.mem_range.mpr ((h.lot l m).lt x hx)
  rw [List.length_range] at this
  have := h.small
  omega
theorem inner_go {n : Nat} {V : List (List Nat)} (hV : Fine n V) (i : Nat) (l : List Nat) (hl : l ∈ V) : ∀ (J : List Nat) (v c4 c5 : Cell), (∀ j ∈ J, j < V.length) →
    forGo (bName 4) innerP (J.map eI) [v, .dat (.list (V.map fun l => eI (mask l))), .dat (eI i), .dat (eI (mask l)), c4, c5] =
      match (J.filter fun j => crossB l (nth V j)).head? with
      | some j => some (.rt (.tuple [eI i, eI j]), [v, .dat (.list (V.map fun l => eI (mask l))), .dat (eI i), .dat (eI (mask l)), .dat (eI j), c5])
      | none => some (.nx, [v, .dat (.list (V.map fun l => eI (mask l))), .dat (eI i), .dat (eI (mask l)), (match J.getLast? with | some j => .dat (eI j) | none => c4), c5])
  | [], v, c4, c5, _ => rfl
  | j :: J, v, c4, c5, h => by
    have hj := h j (List.mem_cons_self ..)
    have ih := inner_go hV i l hl J v (.dat (eI j)) c5 fun k m => h k (List.mem_cons_of_mem _ m)
    have hm : nth V j ∈ V := by
      unfold nth
      rw [List.getD_eq_getElem?_getD, List.getElem?_eq_getElem hj]
      exact List.getElem_mem hj
    have hx := crossM_eq (hV.lot l hl).asc (hV.lot _ hm).asc
    have ha := atI_map (fun l => eI (mask l)) V j [] hj
    have hcall : m_p_cross [eI (mask l), eI (mask (nth V j))] = some (.bool (crossB l (nth V j))) := by rw [← hx]; exact ev_cross _ _
    rw [List.map_cons, forGo]
    rw [List.filter_cons]
    have e1 : bName 4 (eI j) [v, .dat (.list (V.map fun l => eI (mask l))), .dat (eI i), .dat (eI (mask l)), c4, c5] = some [v, .dat (.list (V.map fun l => eI (mask l))), .dat (eI i), .dat (eI (mask l)), .dat (eI j), c5] := by simp [bName]
    have e2 : fIx (.list (V.map fun l => eI (mask l))) (eI j) = some (eI (mask (nth V j))) := ha
    cases hc : crossB l (nth V j) with
    | true =>
      rw [hc] at hcall
      simp only [e1, Option.bind_some]
      simp [innerP, e2, hcall, sSeq, sAsg, sAsgL, sRet, sDrop, sIf, sNext, mVar, mC, lNil, lCons, lLst, mTup, rX, rVar, look, fzL, m1, l1, mOp, mIx, mCall, tX, tAn, tOrr, tNo, tTrue, mIf, mAn, mOrr, mNo, mNeg, bName, bTup, bTupL, bCons, bNil, items, fLen, fTuple, fit_ok, isL, start0, runP, wpG, mSl, lSl, oX, oNo]
    | false =>
      rw [hc] at hcall
      simp only [e1, Option.bind_some]
      have e3 : innerP [v, .dat (.list (V.map fun l => eI (mask l))), .dat (eI i), .dat (eI (mask l)), .dat (eI j), c5] = some (.nx, [v, .dat (.list (V.map fun l => eI (mask l))), .dat (eI i), .dat (eI (mask l)), .dat (eI j), c5]) := by
        simp [innerP, e2, hcall, sSeq, sAsg, sAsgL, sRet, sDrop, sIf, sNext, mVar, mC, lNil, lCons, lLst, mTup, rX, rVar, look, fzL, m1, l1, mOp, mIx, mCall, tX, tAn, tOrr, tNo, tTrue, mIf, mAn, mOrr, mNo, mNeg, bName, bTup, bTupL, bCons, bNil, items, fLen, fTuple, fit_ok, isL, start0, runP, wpG, mSl, lSl, oX, oNo]
      simp only [e3, Option.bind_some, ih, Bool.false_eq_true, if_false]
      cases (J.filter fun j => crossB l (nth V j)).head? with
      | some k => rfl
      | none =>
        dsimp only
        rw [List.getLast?_cons]
        cases J.getLast? <;> rfl
abbrev stP (V : List (List Nat)) (v : Cell) (i : Nat) (l : List Nat) (c4 c5 : Cell) : Ga := [v, .dat (.list (V.map fun l => eI (mask l))), .dat (eI i), .dat (eI (mask l)), c4, c5]
theorem outer_at {n : Nat} {V : List (List Nat)} (hV : Fine n V) (i : Nat) (l : List Nat) (h2 : i < V.length) (v c4 c5 : Cell) : outerP (stP V v i l c4 c5) = forGo (bName 4) innerP ((jR V.length i).map eI) (stP V v i l c4 c5) := by
  have hf := hV.few
  have e := jR_eq V.length i
  have hlen : fLen (.list (V.map fun l => eI (mask l))) = some (.int (V.length : Nat)) := by simp [fLen, items]
  have hadd : fAdd (eI i) (.int 1) = some (.int ((i : Int) + 1)) := rfl
  have h1 : (mOp fAdd (mVar 2) (mC (.int 1))) (stP V v i l c4 c5) = some (.int ((i : Int) + 1), stP V v i l c4 c5) := by simp [hadd, sSeq, sAsg, sAsgL, sRet, sDrop, sIf, sNext, mVar, mC, lNil, lCons, lLst, mTup, rX, rVar, look, fzL, m1, l1, mOp, mIx, mCall, tX, tAn, tOrr, tNo, tTrue, mIf, mAn, mOrr, mNo, mNeg, bName, bTup, bTupL, bCons, bNil, fit_ok, isL, start0, runP, wpG, mSl, lSl, oX, oNo]
  have h3 : (m1 fLen (rX (mVar 1))) (stP V v i l c4 c5) = some (.int (V.length : Nat), stP V v i l c4 c5) := by simp [hlen, sSeq, sAsg, sAsgL, sRet, sDrop, sIf, sNext, mVar, mC, lNil, lCons, lLst, mTup, rX, rVar, look, fzL, m1, l1, mOp, mIx, mCall, tX, tAn, tOrr, tNo, tTrue, mIf, mAn, mOrr, mNo, mNeg, bName, bTup, bTupL, bCons, bNil, fit_ok, isL, start0, runP, wpG, mSl, lSl, oX, oNo]
  have hr := iR2_nat h1 h3 (by omega) (by omega) (by omega) (by omega)
  rw [e] at hr
  simp only [outerP, sFor, hr, Option.bind_some]
theorem outer_go {n : Nat} {V : List (List Nat)} (hV : Fine n V) (Z : List (List Nat × Nat)) : ∀ (v c2 c3 c4 c5 : Cell), (∀ p ∈ Z, p.1 ∈ V ∧ p.2 < V.length) → ∃ Γ,
    forGo (bTup 2 (bCons (bName 2) (bCons (bName 3) bNil))) outerP (Z.map fun p => .tuple [eI p.2, eI (mask p.1)]) [v, .dat (.list (V.map fun l => eI (mask l))), c2, c3, c4, c5] =
      match fX V Z with
      | some q => some (.rt (.tuple [eI q.1, eI q.2]), Γ)
      | none => some (.nx, Γ) := by
  induction Z with
  | nil => exact fun v c2 c3 c4 c5 _ => ⟨_, rfl⟩
  | cons p Z ih =>
    intro v c2 c3 c4 c5 h
    obtain ⟨h1, h2⟩ := h p (List.mem_cons_self ..)
    have hin := inner_go hV p.2 p.1 h1 (jR V.length p.2) v c4 c5 fun j m => jR_lt m
    have hb : bTup 2 (bCons (bName 2) (bCons (bName 3) bNil)) (.tuple [eI p.2, eI (mask p.1)]) [v, .dat (.list (V.map fun l => eI (mask l))), c2, c3, c4, c5] = some (stP V v p.2 p.1 c4 c5) := by simp [sSeq, sAsg, sAsgL, sRet, sDrop, sIf, sNext, mVar, mC, lNil, lCons, lLst, mTup, rX, rVar, look, fzL, m1, l1, mOp, mIx, mCall, tX, tAn, tOrr, tNo, tTrue, mIf, mAn, mOrr, mNo, mNeg, bName, bTup, bTupL, bCons, bNil, items, fLen, fTuple, fit_ok, isL, start0, runP, wpG, mSl, lSl, oX, oNo]
    have ho := outer_at hV p.2 p.1 h2 v c4 c5
    rw [List.map_cons, forGo, hb, Option.bind_some, ho, hin]
    simp only [fX, js]
    cases hd : ((jR V.length p.2).filter fun j => crossB p.1 (nth V j)).head? with
    | some j => exact ⟨_, rfl⟩
    | none =>
      obtain ⟨Γ, e⟩ := ih v (.dat (eI p.2)) (.dat (eI (mask p.1))) (match (jR V.length p.2).getLast? with | some j => .dat (eI j) | none => c4) c5 fun q m => h q (List.mem_cons_of_mem _ m)
      exact ⟨Γ, e⟩
theorem zipIdx_fine (V : List (List Nat)) : ∀ p ∈ V.zipIdx, p.1 ∈ V ∧ p.2 < V.length := fun p m => by
  have := List.mem_zipIdx m
  simp at this
  obtain ⟨h1, h2⟩ := this
  refine ⟨?_, h1⟩
  rw [h2]
  exact List.getElem_mem _
theorem ev_first_cross {n : Nat} {V : List (List Nat)} (hV : Fine n V) : m_p_first_cross [.tuple (V.map eL)] = some (match fX V V.zipIdx with
    | some q => .tuple [eI q.1, eI q.2]
    | none => .none) := by
  have hf : V.length ≤ 100000 := by have := hV.few; omega
  have hc : ∀ v, compGo any_ (bName 5) tTrue (mCall m_p_mask_of (lCons (mVar 5) lNil)) [5] (V.map eL) [v, .no, .no, .no, .no, .no] = some (V.map fun l => eI (mask l), [v, .no, .no, .no, .no, .no]) := fun v =>
    comp_map V fun l m => ⟨[v, .no, .no, .no, .no, .dat (eL l)], [v, .no, .no, .no, .no, .dat (eL l)], by simp [bName], rfl, by
      have hs : ∀ s ∈ l, s ≤ 1000 := fun s hs => by have := (hV.lot l m).lt s hs; have := hV.small; omega
      simp [ev_mask_of l (hV.len l m) hs, sSeq, sAsg, sAsgL, sRet, sDrop, sIf, sNext, mVar, mC, lNil, lCons, lLst, mTup, rX, rVar, look, fzL, m1, l1, mOp, mIx, mCall, tX, tAn, tOrr, tNo, tTrue, mIf, mAn, mOrr, mNo, mNeg, bName, bTup, bTupL, bCons, bNil, items, fLen, fTuple, fit_ok, isL, start0, runP, wpG, mSl, lSl, oX, oNo]
      rfl, by simp [wpG]⟩
  obtain ⟨Γ, e⟩ := outer_go hV V.zipIdx (.dat (.tuple (V.map eL))) .no .no .no .no (zipIdx_fine V)
  have hbody : b_p_first_cross = sSeq (sAsg (fzL (lLc (iTp (mVar 0)) (bName 5) tTrue (mCall m_p_mask_of (lCons (mVar 5) lNil)) [5])) (bName 1)) (sSeq (sFor (iEl (mVar 1)) (bTup 2 (bCons (bName 2) (bCons (bName 3) bNil))) outerP) (sRet (mC .none))) := rfl
  have he := enum_map (fun l => eI (mask l)) V
  have h1 : (sAsg (fzL (lLc (iTp (mVar 0)) (bName 5) tTrue (mCall m_p_mask_of (lCons (mVar 5) lNil)) [5])) (bName 1)) [.dat (.tuple (V.map eL)), .no, .no, .no, .no, .no] = some (.nx, [.dat (.tuple (V.map eL)), .dat (.list (V.map fun l => eI (mask l))), .no, .no, .no, .no]) := by
    simp [lLc, iTp, hf, hc, -List.map_map, sSeq, sAsg, sAsgL, sRet, sDrop, sIf, sNext, mVar, mC, lNil, lCons, lLst, mTup, rX, rVar, look, fzL, m1, l1, mOp, mIx, mCall, tX, tAn, tOrr, tNo, tTrue, mIf, mAn, mOrr, mNo, mNeg, bName, bTup, bTupL, bCons, bNil, items, fLen, fTuple, fit_ok, isL, start0, runP, wpG, mSl, lSl, oX, oNo]
  have h2 : iEl (mVar 1) [.dat (.tuple (V.map eL)), .dat (.list (V.map fun l => eI (mask l))), .no, .no, .no, .no] = some (V.zipIdx.map fun p => .tuple [eI p.2, eI (mask p.1)], any_, [.dat (.tuple (V.map eL)), .dat (.list (V.map fun l => eI (mask l))), .no, .no, .no, .no]) := by
    rw [← he]
    rfl
  have hs : start0 6 [.tuple (V.map eL)] = [.dat (.tuple (V.map eL)), .no, .no, .no, .no, .no] := rfl
  unfold m_p_first_cross
  rw [hbody]
  simp only [runP, List.length_cons, List.length_nil, if_true, hs, sSeq, h1, Option.bind_some, sFor, h2, e]
  cases fX V V.zipIdx with
  | some q => rfl
  | none => rfl
/-- what is judged -/
def asc (V : List (List Nat)) : Bool := (V.zip (V.drop 1)).all fun p => lx p.1 p.2
def jd (n : Nat) (V : List (List Nat)) : PyData := if asc V = true then match fX V V.zipIdx with
    | some q => .tuple [.str "cross", eI q.1, eI q.2]
    | none => if ((V.length : Nat) : Int) = 2 * n - 1 then .none else .tuple [.str "many", eI V.length]
  else .tuple [.str "form"]
theorem ev_judge_lots {n : Nat} {V : List (List Nat)} (hV : Fine n V) : m_p_judge_lots [.int n, .tuple (V.map eL)] = some (jd n V) := by
  have hf : V.length ≤ 100000 := by have := hV.few; omega
  have c1 : ∀ v w, compGo any_ (bName 5) tTrue (mCall m_p_is_lot (lCons (mVar 0) (lCons (mVar 5) lNil))) [5] (V.map eL) [.dat (.int n), v, w, .no, .no, .no] = some (V.map fun _ => .bool true, [.dat (.int n), v, w, .no, .no, .no]) := fun v w =>
    comp_map V fun l m => ⟨[.dat (.int n), v, w, .no, .no, .dat (eL l)], [.dat (.int n), v, w, .no, .no, .dat (eL l)], by simp [bName], rfl, by simp [ev_is_lot (hV.lot l m) (hV.len l m), sSeq, sAsg, sAsgL, sRet, sDrop, sIf, sNext, mVar, mC, lNil, lCons, lLst, mTup, rX, rVar, look, fzL, m1, l1, mOp, mIx, mCall, tX, tAn, tOrr, tNo, tTrue, mIf, mAn, mOrr, mNo, mNeg, bName, bTup, bTupL, bCons, bNil, items, fLen, fTuple, fit_ok, isL, start0, runP, wpG, mSl, lSl, oX, oNo], by simp [wpG]⟩
  have c2 : ∀ u v w : Cell, compGo any_ (bTup 2 (bCons (bName 3) (bCons (bName 4) bNil))) tTrue (mOp fLtT (mVar 3) (mVar 4)) [3, 4] ((V.zip (V.drop 1)).map fun p => .tuple [eL p.1, eL p.2]) [u, v, w, .no, .no, .no] = some ((V.zip (V.drop 1)).map fun p => .bool (lx p.1 p.2), [u, v, w, .no, .no, .no]) := fun u v w =>
    comp_map _ fun p m => ⟨[u, v, w, .dat (eL p.1), .dat (eL p.2), .no], [u, v, w, .dat (eL p.1), .dat (eL p.2), .no], by simp [sSeq, sAsg, sAsgL, sRet, sDrop, sIf, sNext, mVar, mC, lNil, lCons, lLst, mTup, rX, rVar, look, fzL, m1, l1, mOp, mIx, mCall, tX, tAn, tOrr, tNo, tTrue, mIf, mAn, mOrr, mNo, mNeg, bName, bTup, bTupL, bCons, bNil, items, fLen, fTuple, fit_ok, isL, start0, runP, wpG, mSl, lSl, oX, oNo], rfl, by simp [fLtT_eL, sSeq, sAsg, sAsgL, sRet, sDrop, sIf, sNext, mVar, mC, lNil, lCons, lLst, mTup, rX, rVar, look, fzL, m1, l1, mOp, mIx, mCall, tX, tAn, tOrr, tNo, tTrue, mIf, mAn, mOrr, mNo, mNeg, bName, bTup, bTupL, bCons, bNil, items, fLen, fTuple, fit_ok, isL, start0, runP, wpG, mSl, lSl, oX, oNo], by simp [wpG]⟩
  have z2 : V.length - 1 ≤ 100000 := by omega
  have hz := zip_map eL V
  have hA := fAll_map (V.zip (V.drop 1)) fun p => lx p.1 p.2
  have hA1 := fAll_map V fun _ => true
  rw [List.all_eq_true.mpr (fun _ _ => rfl)] at hA1
  have hX := ev_first_cross hV
  have hlen : fLen (.tuple (V.map eL)) = some (.int (V.length : Nat)) := by simp [fLen, items]
  unfold m_p_judge_lots b_p_judge_lots
  unfold jd asc
  cases ha : (V.zip (V.drop 1)).all fun p => lx p.1 p.2 with
  | false =>
    rw [ha] at hA
    simp [mIsi, isi_tup_tup, iTp, iZp, lLc, hf, c1, c2, hA, hA1, cut_from, z2, hz, ha, -List.map_map, -List.map_drop, -List.drop_one, sSeq, sAsg, sAsgL, sRet, sDrop, sIf, sNext, mVar, mC, lNil, lCons, lLst, mTup, rX, rVar, look, fzL, m1, l1, mOp, mIx, mCall, tX, tAn, tOrr, tNo, tTrue, mIf, mAn, mOrr, mNo, mNeg, bName, bTup, bTupL, bCons, bNil, items, fLen, fTuple, fit_ok, isL, start0, runP, wpG, mSl, lSl, oX, oNo]
  | true =>
    rw [ha] at hA
    cases hx : fX V V.zipIdx with
    | some q =>
      rw [hx] at hX
      simp [mIsi, isi_tup_tup, iTp, iZp, lLc, hf, c1, c2, hA, hA1, cut_from, z2, hz, hX, mIsN, isNone, fCat, -List.map_map, -List.map_drop, -List.drop_one, sSeq, sAsg, sAsgL, sRet, sDrop, sIf, sNext, mVar, mC, lNil, lCons, lLst, mTup, rX, rVar, look, fzL, m1, l1, mOp, mIx, mCall, tX, tAn, tOrr, tNo, tTrue, mIf, mAn, mOrr, mNo, mNeg, bName, bTup, bTupL, bCons, bNil, items, fLen, fTuple, fit_ok, isL, start0, runP, wpG, mSl, lSl, oX, oNo]
    | none =>
      rw [hx] at hX
      have hm : fMul (.int 2) (.int n) = some (.int (2 * n)) := rfl
      have hs : fSub (.int (2 * n)) (.int 1) = some (.int (2 * n - 1)) := rfl
      by_cases c : ((V.length : Nat) : Int) = 2 * n - 1
      · simp [mIsi, isi_tup_tup, iTp, iZp, lLc, hf, c1, c2, hA, hA1, cut_from, z2, hz, hX, mIsN, isNone, hlen, hm, hs, fEq_int, c, -List.map_map, -List.map_drop, -List.drop_one, sSeq, sAsg, sAsgL, sRet, sDrop, sIf, sNext, mVar, mC, lNil, lCons, lLst, mTup, rX, rVar, look, fzL, m1, l1, mOp, mIx, mCall, tX, tAn, tOrr, tNo, tTrue, mIf, mAn, mOrr, mNo, mNeg, bName, bTup, bTupL, bCons, bNil, fit_ok, isL, start0, runP, wpG, mSl, lSl, oX, oNo]
      · simp [mIsi, isi_tup_tup, iTp, iZp, lLc, hf, c1, c2, hA, hA1, cut_from, z2, hz, hX, mIsN, isNone, hlen, hm, hs, fEq_int, c, eI, -List.map_map, -List.map_drop, -List.drop_one, sSeq, sAsg, sAsgL, sRet, sDrop, sIf, sNext, mVar, mC, lNil, lCons, lLst, mTup, rX, rVar, look, fzL, m1, l1, mOp, mIx, mCall, tX, tAn, tOrr, tNo, tTrue, mIf, mAn, mOrr, mNo, mNeg, bName, bTup, bTupL, bCons, bNil, fit_ok, isL, start0, runP, wpG, mSl, lSl, oX, oNo]
end Tst


namespace Tst
open PySem PySem.Spec PyProof.Rows L2 MM LM
variable [Tb]
noncomputable def lfComp : ML := lLc (iR2 (mOp fAdd (mVar 2) (mC (.int 1))) (m1 fLen (rX (mVar 1)))) (bName 5) (tX (mCall m_cross (lCons (mVar 3) (lCons (mIx (rX (mVar 1)) (mVar 5)) lNil)))) (mVar 5) [5]
noncomputable def lfBody : MS := sSeq (sAsg (fzL lfComp) (bName 4)) (sIf (tX (mOp (fEq true) (mVar 4) (fzL (lLst lNil)))) (sRet (mTup (lCons (mC (.str "cross")) (lCons (mVar 2) (lCons (mIx (rX (mVar 4)) (mC (.int 0))) lNil))))) sNext)
abbrev stL (V : List (List Nat)) (u : Cell) (i : Nat) (l : List Nat) (c4 c6 c7 : Cell) : Ga := [u, .dat (.tuple (V.map eL)), .dat (eI i), .dat (eL l), c4, .no, c6, c7]
theorem lf_comp {n : Nat} {V : List (List Nat)} (hV : Fine n V) (i : Nat) (l : List Nat) (hl : l ∈ V) (h2 : i < V.length) (u c4 c6 c7 : Cell) : lfComp (stL V u i l c4 c6 c7) = some ((js V i l).map eI, stL V u i l c4 c6 c7) := by
  have hf := hV.few
  have e := jR_eq V.length i
  have hlen : fLen (.tuple (V.map eL)) = some (.int (V.length : Nat)) := by simp [fLen, items]
  have hadd : fAdd (eI i) (.int 1) = some (.int ((i : Int) + 1)) := rfl
  have h1 : (mOp fAdd (mVar 2) (mC (.int 1))) (stL V u i l c4 c6 c7) = some (.int ((i : Int) + 1), stL V u i l c4 c6 c7) := by simp [hadd, sSeq, sAsg, sAsgL, sRet, sDrop, sIf, sNext, mVar, mC, lNil, lCons, lLst, mTup, rX, rVar, look, fzL, m1, l1, mOp, mIx, mCall, tX, tAn, tOrr, tNo, tTrue, mIf, mAn, mOrr, mNo, mNeg, bName, bTup, bTupL, bCons, bNil, fit_ok, isL, start0, runP, wpG, mSl, lSl, oX, oNo]
  have h3 : (m1 fLen (rX (mVar 1))) (stL V u i l c4 c6 c7) = some (.int (V.length : Nat), stL V u i l c4 c6 c7) := by simp [hlen, sSeq, sAsg, sAsgL, sRet, sDrop, sIf, sNext, mVar, mC, lNil, lCons, lLst, mTup, rX, rVar, look, fzL, m1, l1, mOp, mIx, mCall, tX, tAn, tOrr, tNo, tTrue, mIf, mAn, mOrr, mNo, mNeg, bName, bTup, bTupL, bCons, bNil, fit_ok, isL, start0, runP, wpG, mSl, lSl, oX, oNo]
  have hr := iR2_nat h1 h3 (by omega) (by omega) (by omega) (by omega)
  rw [e] at hr
  have hjl : ((jR V.length i).map eI).length ≤ 100000 := by simp [jR]; omega
  have hw : wpG (stL V u i l c4 c6 c7) [5] = stL V u i l c4 c6 c7 := rfl
  have hc : compGo any_ (bName 5) (tX (mCall m_cross (lCons (mVar 3) (lCons (mIx (rX (mVar 1)) (mVar 5)) lNil)))) (mVar 5) [5] ((jR V.length i).map eI) (stL V u i l c4 c6 c7) = some ((js V i l).map eI, stL V u i l c4 c6 c7) := by
    refine comp_filter (p := fun j => crossB l (nth V j)) _ fun j m => ⟨[u, .dat (.tuple (V.map eL)), .dat (eI i), .dat (eL l), c4, .dat (eI j), c6, c7], by simp [bName], ?_, by simp [wpG], by simp [mVar]⟩
    have hx : fIx (.tuple (V.map eL)) (eI j) = some (eL (nth V j)) := atI_map eL V j [] (jR_lt m)
    have hcall := ev_law_cross l (nth V j) (hV.len l hl)
    simp [hx, hcall, sSeq, sAsg, sAsgL, sRet, sDrop, sIf, sNext, mVar, mC, lNil, lCons, lLst, mTup, rX, rVar, look, fzL, m1, l1, mOp, mIx, mCall, tX, tAn, tOrr, tNo, tTrue, mIf, mAn, mOrr, mNo, mNeg, bName, bTup, bTupL, bCons, bNil, items, fLen, fTuple, fit_ok, isL, start0, runP, wpG, mSl, lSl, oX, oNo]
  unfold lfComp lLc
  simp only [hr, Option.bind_some, hw, hc, fit_ok hjl]
theorem lf_body {n : Nat} {V : List (List Nat)} (hV : Fine n V) (i : Nat) (l : List Nat) (hl : l ∈ V) (h2 : i < V.length) (u c4 c6 c7 : Cell) : lfBody (stL V u i l c4 c6 c7) = some ((match (js V i l).head? with
    | some j => .rt (.tuple [.str "cross", eI i, eI j])
    | none => .nx), stL V u i l (.dat (.list ((js V i l).map eI))) c6 c7) := by
  have hc := lf_comp hV i l hl h2 u c4 c6 c7
  have hs : Sh 1 (.list ((js V i l).map eI)) := Sh.lst fun d m => by
    obtain ⟨x, _, rfl⟩ := List.mem_map.mp m
    exact Sh.int _ _
  have he : Sh 1 (.list []) := Sh.lst (k := 0) fun d m => nomatch m
  have hq := fEq_sh (neg := true) hs he (by decide) (by decide)
  unfold lfBody
  cases hj : js V i l with
  | nil =>
    rw [hj] at hc hq
    simp only [List.map_nil, decide_true, Bool.not_true, if_true] at hq hc
    simp [hc, hq, sSeq, sAsg, sAsgL, sRet, sDrop, sIf, sNext, mVar, mC, lNil, lCons, lLst, mTup, rX, rVar, look, fzL, m1, l1, mOp, mIx, mCall, tX, tAn, tOrr, tNo, tTrue, mIf, mAn, mOrr, mNo, mNeg, bName, bTup, bTupL, bCons, bNil, items, fLen, fTuple, fit_ok, isL, start0, runP, wpG, mSl, lSl, oX, oNo]
  | cons j r =>
    rw [hj] at hc hq
    have hne : ¬ PyData.list ((j :: r).map eI) = .list [] := fun e => by cases e
    simp only [hne, decide_false, Bool.not_false, if_true] at hq
    have hx : fIx (.list ((j :: r).map eI)) (.int 0) = some (eI j) := by simp [fIx, atI, ixN]
    simp [hc, hq, hx, -List.map_cons, sSeq, sAsg, sAsgL, sRet, sDrop, sIf, sNext, mVar, mC, lNil, lCons, lLst, mTup, rX, rVar, look, fzL, m1, l1, mOp, mIx, mCall, tX, tAn, tOrr, tNo, tTrue, mIf, mAn, mOrr, mNo, mNeg, bName, bTup, bTupL, bCons, bNil, items, fLen, fTuple, fit_ok, isL, start0, runP, wpG, mSl, lSl, oX, oNo]
theorem lf_go {n : Nat} {V : List (List Nat)} (hV : Fine n V) (Z : List (List Nat × Nat)) : ∀ (u c2 c3 c4 c6 c7 : Cell), (∀ p ∈ Z, p.1 ∈ V ∧ p.2 < V.length) → ∃ Γ,
    forGo (bTup 2 (bCons (bName 2) (bCons (bName 3) bNil))) lfBody (Z.map fun p => .tuple [eI p.2, eL p.1]) [u, .dat (.tuple (V.map eL)), c2, c3, c4, .no, c6, c7] =
      some ((match fX V Z with
      | some q => .rt (.tuple [.str "cross", eI q.1, eI q.2])
      | none => .nx), Γ) ∧ (fX V Z = none → ∃ d2 d3 d4, Γ = [u, .dat (.tuple (V.map eL)), d2, d3, d4, .no, c6, c7]) := by
  induction Z with
  | nil => exact fun u c2 c3 c4 c6 c7 _ => ⟨_, rfl, fun _ => ⟨_, _, _, rfl⟩⟩
  | cons p Z ih =>
    intro u c2 c3 c4 c6 c7 h
    obtain ⟨h1, h2⟩ := h p (List.mem_cons_self ..)
    have hin := lf_body hV p.2 p.1 h1 h2 u c4 c6 c7
    have hb : bTup 2 (bCons (bName 2) (bCons (bName 3) bNil)) (.tuple [eI p.2, eL p.1]) [u, .dat (.tuple (V.map eL)), c2, c3, c4, .no, c6, c7] = some (stL V u p.2 p.1 c4 c6 c7) := by simp [sSeq, sAsg, sAsgL, sRet, sDrop, sIf, sNext, mVar, mC, lNil, lCons, lLst, mTup, rX, rVar, look, fzL, m1, l1, mOp, mIx, mCall, tX, tAn, tOrr, tNo, tTrue, mIf, mAn, mOrr, mNo, mNeg, bName, bTup, bTupL, bCons, bNil, items, fLen, fTuple, fit_ok, isL, start0, runP, wpG, mSl, lSl, oX, oNo]
    rw [List.map_cons, forGo, hb, Option.bind_some, hin]
    simp only [fX, Option.bind_some]
    cases hd : (js V p.2 p.1).head? with
    | some j => exact ⟨_, rfl, fun z => by cases z⟩
    | none =>
      obtain ⟨Γ, e⟩ := ih u (.dat (eI p.2)) (.dat (eL p.1)) (.dat (.list ((js V p.2 p.1).map eI))) c6 c7 fun q m => h q (List.mem_cons_of_mem _ m)
      exact ⟨Γ, e⟩
theorem ev_lots_fault {n : Nat} {V : List (List Nat)} (hV : Fine n V) : m_lots_fault [.int n, .tuple (V.map eL)] = some (jd n V) := by
  have hf : V.length ≤ 100000 := by have := hV.few; omega
  have c1 : ∀ u v w x y z : Cell, compGo any_ (bName 7) tTrue (mCall m_is_lot (lCons (mVar 0) (lCons (mVar 7) lNil))) [7] (V.map eL) [.dat (.int n), u, v, w, x, y, z, .no] = some (V.map fun _ => .bool true, [.dat (.int n), u, v, w, x, y, z, .no]) := fun u v w x y z =>
    comp_map V fun l m => ⟨[.dat (.int n), u, v, w, x, y, z, .dat (eL l)], [.dat (.int n), u, v, w, x, y, z, .dat (eL l)], by simp [bName], rfl, by simp [ev_law_is_lot (hV.lot l m) (hV.len l m), sSeq, sAsg, sAsgL, sRet, sDrop, sIf, sNext, mVar, mC, lNil, lCons, lLst, mTup, rX, rVar, look, fzL, m1, l1, mOp, mIx, mCall, tX, tAn, tOrr, tNo, tTrue, mIf, mAn, mOrr, mNo, mNeg, bName, bTup, bTupL, bCons, bNil, items, fLen, fTuple, fit_ok, isL, start0, runP, wpG, mSl, lSl, oX, oNo], by simp [wpG]⟩
  have c2 : ∀ u v w x y z : Cell, compGo any_ (bTup 2 (bCons (bName 3) (bCons (bName 6) bNil))) tTrue (mOp fLtT (mVar 3) (mVar 6)) [3, 6] ((V.zip (V.drop 1)).map fun p => .tuple [eL p.1, eL p.2]) [u, v, w, .no, x, y, .no, z] = some ((V.zip (V.drop 1)).map fun p => .bool (lx p.1 p.2), [u, v, w, .no, x, y, .no, z]) := fun u v w x y z =>
    comp_map _ fun p m => ⟨[u, v, w, .dat (eL p.1), x, y, .dat (eL p.2), z], [u, v, w, .dat (eL p.1), x, y, .dat (eL p.2), z], by simp [sSeq, sAsg, sAsgL, sRet, sDrop, sIf, sNext, mVar, mC, lNil, lCons, lLst, mTup, rX, rVar, look, fzL, m1, l1, mOp, mIx, mCall, tX, tAn, tOrr, tNo, tTrue, mIf, mAn, mOrr, mNo, mNeg, bName, bTup, bTupL, bCons, bNil, items, fLen, fTuple, fit_ok, isL, start0, runP, wpG, mSl, lSl, oX, oNo], rfl, by simp [fLtT_eL, sSeq, sAsg, sAsgL, sRet, sDrop, sIf, sNext, mVar, mC, lNil, lCons, lLst, mTup, rX, rVar, look, fzL, m1, l1, mOp, mIx, mCall, tX, tAn, tOrr, tNo, tTrue, mIf, mAn, mOrr, mNo, mNeg, bName, bTup, bTupL, bCons, bNil, items, fLen, fTuple, fit_ok, isL, start0, runP, wpG, mSl, lSl, oX, oNo], by simp [wpG]⟩
  have z2 : V.length - 1 ≤ 100000 := by omega
  have hz := zip_map eL V
  have hA := fAll_map (V.zip (V.drop 1)) fun p => lx p.1 p.2
  have hA1 := fAll_map V fun _ => true
  rw [List.all_eq_true.mpr (fun _ _ => rfl)] at hA1
  obtain ⟨Γ, hX, hG⟩ := lf_go hV V.zipIdx (.dat (.int n)) .no .no .no .no .no (zipIdx_fine V)
  have he := enum_map eL V
  rw [← he] at hX
  have hlen : fLen (.tuple (V.map eL)) = some (.int (V.length : Nat)) := by simp [fLen, items]
  have hbody : b_lots_fault = sSeq (sIf (tOrr (tNo (tX (mIsi "tuple" (mVar 1)))) (tNo (tX (m1 fAll (rX (fzL (lLc (iTp (mVar 1)) (bName 7) tTrue (mCall m_is_lot (lCons (mVar 0) (lCons (mVar 7) lNil))) [7]))))))) (sRet (mTup (lCons (mC (.str "form")) lNil))) sNext)
    (sSeq (sIf (tNo (tX (m1 fAll (rX (fzL (lLc (iZp (mVar 1) (mSl (rX (mVar 1)) (oX (mC (.int 1))) oNo)) (bTup 2 (bCons (bName 3) (bCons (bName 6) bNil))) tTrue (mOp fLtT (mVar 3) (mVar 6)) [3, 6])))))) (sRet (mTup (lCons (mC (.str "form")) lNil))) sNext)
    (sSeq (sFor (iEt (mVar 1)) (bTup 2 (bCons (bName 2) (bCons (bName 3) bNil))) lfBody)
    (sRet (mIf (tX (mOp (fEq false) (m1 fLen (rX (mVar 1))) (mOp fSub (mOp fMul (mC (.int 2)) (mVar 0)) (mC (.int 1))))) (mC .none) (mTup (lCons (mC (.str "many")) (lCons (m1 fLen (rX (mVar 1))) lNil))))))) := rfl
  unfold m_lots_fault
  rw [hbody]
  unfold jd asc
  cases ha : (V.zip (V.drop 1)).all fun p => lx p.1 p.2 with
  | false =>
    rw [ha] at hA
    simp [mIsi, isi_tup_tup, iTp, iZp, lLc, hf, c1, c2, hA, hA1, cut_from, z2, hz, ha, -List.map_map, -List.map_drop, -List.drop_one, sSeq, sAsg, sAsgL, sRet, sDrop, sIf, sNext, mVar, mC, lNil, lCons, lLst, mTup, rX, rVar, look, fzL, m1, l1, mOp, mIx, mCall, tX, tAn, tOrr, tNo, tTrue, mIf, mAn, mOrr, mNo, mNeg, bName, bTup, bTupL, bCons, bNil, items, fLen, fTuple, fit_ok, isL, start0, runP, wpG, mSl, lSl, oX, oNo]
  | true =>
    rw [ha] at hA
    cases hx : fX V V.zipIdx with
    | some q =>
      rw [hx] at hX
      simp [mIsi, isi_tup_tup, iTp, iZp, iEt, sFor, lLc, hf, c1, c2, hA, hA1, cut_from, z2, hz, hX, -List.map_map, -List.map_drop, -List.drop_one, sSeq, sAsg, sAsgL, sRet, sDrop, sIf, sNext, mVar, mC, lNil, lCons, lLst, mTup, rX, rVar, look, fzL, m1, l1, mOp, mIx, mCall, tX, tAn, tOrr, tNo, tTrue, mIf, mAn, mOrr, mNo, mNeg, bName, bTup, bTupL, bCons, bNil, items, fLen, fTuple, fit_ok, isL, start0, runP, wpG, mSl, lSl, oX, oNo]
    | none =>
      rw [hx] at hX
      obtain ⟨d2, d3, d4, rfl⟩ := hG hx
      have hm : fMul (.int 2) (.int n) = some (.int (2 * n)) := rfl
      have hs : fSub (.int (2 * n)) (.int 1) = some (.int (2 * n - 1)) := rfl
      by_cases c : ((V.length : Nat) : Int) = 2 * n - 1
      · simp [mIsi, isi_tup_tup, iTp, iZp, iEt, sFor, lLc, hf, c1, c2, hA, hA1, cut_from, z2, hz, hX, hlen, hm, hs, fEq_int, c, -List.map_map, -List.map_drop, -List.drop_one, sSeq, sAsg, sAsgL, sRet, sDrop, sIf, sNext, mVar, mC, lNil, lCons, lLst, mTup, rX, rVar, look, fzL, m1, l1, mOp, mIx, mCall, tX, tAn, tOrr, tNo, tTrue, mIf, mAn, mOrr, mNo, mNeg, bName, bTup, bTupL, bCons, bNil, fit_ok, isL, start0, runP, wpG, mSl, lSl, oX, oNo]
      · simp [mIsi, isi_tup_tup, iTp, iZp, iEt, sFor, lLc, hf, c1, c2, hA, hA1, cut_from, z2, hz, hX, hlen, hm, hs, fEq_int, c, eI, -List.map_map, -List.map_drop, -List.drop_one, sSeq, sAsg, sAsgL, sRet, sDrop, sIf, sNext, mVar, mC, lNil, lCons, lLst, mTup, rX, rVar, look, fzL, m1, l1, mOp, mIx, mCall, tX, tAn, tOrr, tNo, tTrue, mIf, mAn, mOrr, mNo, mNeg, bName, bTup, bTupL, bCons, bNil, fit_ok, isL, start0, runP, wpG, mSl, lSl, oX, oNo]
end Tst


namespace Tst
open PySem PySem.Spec PyProof.Rows L2 MM LM
variable [Tb]
/-! ### the law's lots of a plan -/
def post : Pl → List (List Nat)
  | .leaf s => [[s]]
  | .node a b => post a ++ post b ++ [lot (.node a b)]
theorem post_last : ∀ p : Pl, ∃ L, post p = L ++ [lot p]
  | .leaf s => ⟨[], by rw [post, show lot (.leaf s) = [s] from sn_of_asc (l := [s]) (by simp [Asc])]; rfl⟩
  | .node a b => ⟨post a ++ post b, rfl⟩
theorem post_perm : ∀ p : Pl, (post p).Perm ((subs p).map lot)
  | .leaf s => by rw [post, subs, List.map_cons, List.map_nil, show lot (.leaf s) = [s] from sn_of_asc (l := [s]) (by simp [Asc])]
  | .node a b => by
    rw [post, subs, List.map_cons, List.map_append]
    refine List.perm_append_comm.trans ?_
    exact ((post_perm a).append (post_perm b)).cons _
theorem post_len (p : Pl) : (post p).length + 1 = 2 * (leaves p).length := by
  rw [(post_perm p).length_eq, List.length_map, subs_len]
theorem sn_two (a b : Pl) : sn (lot a ++ lot b) = lot (.node a b) := sn_congr ((sn_perm _).append (sn_perm _))
theorem fSortU_eI (l : List Nat) : fSortU (.tuple (l.map eI)) = some ((sn l).map eI) := by
  simp only [fSortU, ints_eI, Option.bind_some, sortI_eI, List.map_map]
  rfl
theorem lot_le (p : Pl) (h : (leaves p).length ≤ 1000) : (lot p).length ≤ 1000 := by rw [lot_len]; exact h
theorem ev_plan_lots : ∀ (p : Pl) (k : Nat), (leaves p).length ≤ k → (leaves p).length ≤ 1000 → m_plan_lots k [eP p] = some (.list ((post p).map eL))
  | .leaf s, 0, h, _ => absurd h (by simp [leaves])
  | .leaf s, k + 1, _, _ => by
    show runP 3 1 (b_plan_lots (m_plan_lots k)) [eP (.leaf s)] = _
    unfold b_plan_lots
    simp [mIsi, eP, isi_int_int, isi_int_bool, post, eL, eI, sSeq, sAsg, sAsgL, sRet, sDrop, sIf, sNext, mVar, mC, lNil, lCons, lLst, mTup, rX, rVar, look, fzL, m1, l1, mOp, mIx, mCall, tX, tAn, tOrr, tNo, tTrue, mIf, mAn, mOrr, mNo, mNeg, bName, bTup, bTupL, bCons, bNil, items, fLen, fTuple, fit_ok, isL, start0, runP, wpG, mSl, lSl, oX, oNo]
  | .node a b, 0, h, _ => absurd h (by have := leaves_pos (.node a b); omega)
  | .node a b, k + 1, h, hm => by
    have pa := leaves_pos a
    have pb := leaves_pos b
    have hn : (leaves (.node a b)).length = (leaves a).length + (leaves b).length := by simp [leaves]
    have iha := ev_plan_lots a k (by omega) (by omega)
    have ihb := ev_plan_lots b k (by omega) (by omega)
    show runP 3 1 (b_plan_lots (m_plan_lots k)) [eP (.node a b)] = _
    obtain ⟨La, ea⟩ := post_last a
    obtain ⟨Lb, eb⟩ := post_last b
    have xa : fIx (.list ((post a).map eL)) (.int (-1)) = some (eL (lot a)) := by rw [ea]; exact atI_last eL La (lot a)
    have xb : fIx (.list ((post b).map eL)) (.int (-1)) = some (eL (lot b)) := by rw [eb]; exact atI_last eL Lb (lot b)
    have la := lot_le a (by omega)
    have lb := lot_le b (by omega)
    have hc : fCat (eL (lot a)) (eL (lot b)) = some (.tuple ((lot a ++ lot b).map eI)) := by
      have : ((lot a).map eI).length + ((lot b).map eI).length ≤ 100000 := by rw [List.length_map, List.length_map]; omega
      simp only [fCat, eL, fit_ok this, List.map_append]
    have hs := fSortU_eI (lot a ++ lot b)
    rw [sn_two] at hs
    have n1 := post_len a
    have n2 := post_len b
    have f1 : (post a).length + (post b).length ≤ 100000 := by omega
    have f2 : (post a).length + (post b).length + 1 ≤ 100000 := by omega
    have i0 : fIx (.tuple [eP a, eP b]) (.int 0) = some (eP a) := by simp [fIx, atI, ixN]
    have i1 : fIx (.tuple [eP a, eP b]) (.int 1) = some (eP b) := by simp [fIx, atI, ixN]
    unfold b_plan_lots
    simp only [eP]
    simp [mIsi, isi_tup_int, isi_tup_tup, fEq_int, sParXX, i0, i1, iha, ihb, mIsN, isNone, xa, xb, hc, hs, lCat, f1, f2, -List.map_append, -List.map_map, sSeq, sAsg, sAsgL, sRet, sDrop, sIf, sNext, mVar, mC, lNil, lCons, lLst, mTup, rX, rVar, look, fzL, m1, l1, mOp, mIx, mCall, tX, tAn, tOrr, tNo, tTrue, mIf, mAn, mOrr, mNo, mNeg, bName, bTup, bTupL, bCons, bNil, items, fLen, fTuple, fit_ok, isL, start0, runP, wpG, mSl, lSl, oX, oNo]
    simp [post]
    rfl

/-! ### the law's form -/
theorem post_lt {a b : Pl} (n : (leaves (.node a b)).Nodup) : lx (lot a) (lot b) = decide (lmin a < lmin b) := by
  obtain ⟨na, nb, nab⟩ := List.nodup_append.mp (show (leaves a ++ leaves b).Nodup from n)
  have ne : lmin a ≠ lmin b := fun e => nab _ (lmin_mem a) _ (e ▸ lmin_mem b) rfl
  obtain ⟨ta, ha⟩ := lot_head na
  obtain ⟨tb, hb⟩ := lot_head nb
  rw [ha, hb, lx, if_neg ne]
theorem ev_law_formed : ∀ (p : Pl) (k : Nat), (leaves p).length ≤ k → (leaves p).length ≤ 50 → (leaves p).Nodup → m_formed k [eP p] = some (eP (formed p))
  | .leaf s, 0, h, _, _ => absurd h (by simp [leaves])
  | .leaf s, k + 1, _, _, _ => by
    show runP 3 1 (b_formed (m_formed k)) [eP (.leaf s)] = _
    unfold b_formed
    simp [mIsi, eP, isi_int_tup, formed, sSeq, sAsg, sAsgL, sRet, sDrop, sIf, sNext, mVar, mC, lNil, lCons, lLst, mTup, rX, rVar, look, fzL, m1, l1, mOp, mIx, mCall, tX, tAn, tOrr, tNo, tTrue, mIf, mAn, mOrr, mNo, mNeg, bName, bTup, bTupL, bCons, bNil, items, fLen, fTuple, fit_ok, isL, start0, runP, wpG, mSl, lSl, oX, oNo]
  | .node a b, 0, h, _, _ => absurd h (by have := leaves_pos (.node a b); omega)
  | .node a b, k + 1, h, hm, nd => by
    have pa := leaves_pos a
    have pb := leaves_pos b
    have hn : (leaves (.node a b)).length = (leaves a).length + (leaves b).length := by simp [leaves]
    obtain ⟨na, nb, nab⟩ := List.nodup_append.mp (show (leaves a ++ leaves b).Nodup from nd)
    have iha := ev_law_formed a k (by omega) (by omega) na
    have ihb := ev_law_formed b k (by omega) (by omega) nb
    show runP 3 1 (b_formed (m_formed k)) [eP (.node a b)] = _
    have fa := (formed_leaves a).length_eq
    have fb := (formed_leaves b).length_eq
    have qa := ev_plan_lots (formed a) 50 (by omega) (by omega)
    have qb := ev_plan_lots (formed b) 50 (by omega) (by omega)
    obtain ⟨La, ea⟩ := post_last (formed a)
    obtain ⟨Lb, eb⟩ := post_last (formed b)
    have xa : fIx (.list ((post (formed a)).map eL)) (.int (-1)) = some (eL (lot a)) := by rw [ea, lot_formed]; exact atI_last eL La (lot a)
    have xb : fIx (.list ((post (formed b)).map eL)) (.int (-1)) = some (eL (lot b)) := by rw [eb, lot_formed]; exact atI_last eL Lb (lot b)
    have i0 : fIx (.tuple [eP a, eP b]) (.int 0) = some (eP a) := by simp [fIx, atI, ixN]
    have i1 : fIx (.tuple [eP a, eP b]) (.int 1) = some (eP b) := by simp [fIx, atI, ixN]
    have hl := fLtT_eL (lot a) (lot b)
    rw [post_lt nd] at hl
    unfold b_formed
    simp only [eP]
    rw [formed]
    by_cases c : lmin a < lmin b
    · rw [if_pos c]
      rw [decide_eq_true c] at hl
      simp [mIsi, isi_tup_tup, sParXX, i0, i1, iha, ihb, qa, qb, xa, xb, hl, eP, -List.map_map, sSeq, sAsg, sAsgL, sRet, sDrop, sIf, sNext, mVar, mC, lNil, lCons, lLst, mTup, rX, rVar, look, fzL, m1, l1, mOp, mIx, mCall, tX, tAn, tOrr, tNo, tTrue, mIf, mAn, mOrr, mNo, mNeg, bName, bTup, bTupL, bCons, bNil, items, fLen, fTuple, fit_ok, isL, start0, runP, wpG, mSl, lSl, oX, oNo]
    · rw [if_neg c]
      rw [decide_eq_false c] at hl
      simp [mIsi, isi_tup_tup, sParXX, i0, i1, iha, ihb, qa, qb, xa, xb, hl, eP, -List.map_map, sSeq, sAsg, sAsgL, sRet, sDrop, sIf, sNext, mVar, mC, lNil, lCons, lLst, mTup, rX, rVar, look, fzL, m1, l1, mOp, mIx, mCall, tX, tAn, tOrr, tNo, tTrue, mIf, mAn, mOrr, mNo, mNeg, bName, bTup, bTupL, bCons, bNil, items, fLen, fTuple, fit_ok, isL, start0, runP, wpG, mSl, lSl, oX, oNo]
end Tst


namespace Tst
open PySem PySem.Spec PyProof.Rows L2 MM LM
variable [Tb]
/-! ### the law's plan of lots -/
abbrev kl (l : List Nat) : List L2.Key := l.map ke
theorem kl_inj : ∀ i j, kl i = kl j → i = j := by
  intro i
  induction i with
  | nil => intro j e; cases j with
    | nil => rfl
    | cons a j => cases e
  | cons a i ih =>
    intro j e
    cases j with
    | nil => cases e
    | cons b j =>
      simp only [kl, List.map_cons] at e
      obtain ⟨e1, e2⟩ := List.cons.inj e
      rw [ke_inj _ _ e1, ih j e2]
theorem keys1_eI (l : List Nat) : keys1 (l.map eI) = some (kl l) := by
  induction l with
  | nil => rfl
  | cons a l ih => simp only [List.map_cons, keys1, eI, key1, Option.bind_some] at ih ⊢; rw [ih]; rfl
theorem keyT_eL (l : List Nat) : keyT (eL l) = some (kl l) := keys1_eI l
theorem unkey_kl (l : List Nat) : PyData.tuple ((kl l).map unkey) = eL l := by
  unfold eL kl
  rw [List.map_map]
  rfl
theorem keys_eL {D : List (List L2.Key × PyData)} {ks : List (List Nat)} (h : ks.map kl = D.map (·.1)) : (D.map fun p => PyData.tuple (p.1.map unkey)) = ks.map eL := by
  have : (D.map fun p => PyData.tuple (p.1.map unkey)) = (D.map (·.1)).map fun k => PyData.tuple (k.map unkey) := by rw [List.map_map]; rfl
  rw [this, ← h, List.map_map]
  refine List.map_congr_left fun l _ => unkey_kl l
noncomputable def pbComp : ML := lLc (iLs (fzL (l1 fSortT (rX (fzL (lKeysT 1)))))) (bName 5) (tX (mIn (fIn false) (mIx (rX (mVar 5)) (mC (.int 0))) (rX (mVar 2)))) (mVar 5) [5]
noncomputable def pbBody : MS := sSeq (sAsg (fzL pbComp) (bName 3))
  (sSeq (sAsg (mIf (tX (mOp (fEq false) (mVar 3) (fzL (lLst lNil)))) (mIx (rX (mVar 2)) (mC (.int 0))) (mTup (lCons (mDGet 1 (mIx (rX (mVar 3)) (mC (.int 0)))) (lCons (mDGet 1 (mIx (rX (mVar 3)) (mC (.int 1)))) lNil)))) (bName 4))
  (sSeq (sFor (iLs (mVar 3)) (bName 5) (sDrop (mDPop 1 (mVar 5))))
  (sDPt 1 (mVar 2) (mVar 4))))
theorem pb_comp {D : List (List L2.Key × PyData)} {ks : List (List Nat)} (h : ks.map kl = D.map (·.1)) (hh : ∀ k ∈ ks, ∃ i t, k = i :: t) (hD : D.length ≤ 1000) (l : List Nat) (v c3 c4 c5 : Cell) :
    pbComp [v, .dT D, .dat (eL l), c3, c4, c5] = some (((srt ks).filter fun k => decide (k.headD 0 ∈ l)).map eL, [v, .dT D, .dat (eL l), c3, c4, .no]) := by
  have hn : ∀ k ∈ ks, k ≠ [] := fun k m e => by obtain ⟨i, t, e'⟩ := hh k m; rw [e] at e'; cases e'
  have hs := fSortT_eL hn
  have hlen : ((srt ks).map eL).length ≤ 100000 := by
    rw [List.length_map, (srt_perm ks).length_eq]
    have := congrArg List.length h
    rw [List.length_map, List.length_map] at this
    omega
  have hc : compGo any_ (bName 5) (tX (mIn (fIn false) (mIx (rX (mVar 5)) (mC (.int 0))) (rX (mVar 2)))) (mVar 5) [5] ((srt ks).map eL) [v, .dT D, .dat (eL l), c3, c4, .no] = some (((srt ks).filter fun k => decide (k.headD 0 ∈ l)).map eL, [v, .dT D, .dat (eL l), c3, c4, .no]) := by
    refine comp_filter (f := eL) (g := eL) (p := fun k => decide (k.headD 0 ∈ l)) (srt ks) fun k m => ⟨[v, .dT D, .dat (eL l), c3, c4, .dat (eL k)], by simp [bName], ?_, by simp [wpG], by simp [mVar]⟩
    obtain ⟨i, t, rfl⟩ := hh k (mem_srt.mp m)
    have hx : fIx (eL (i :: t)) (.int 0) = some (eI i) := by simp [fIx, atI, ixN, eL]
    have hi := fIn_eL l i
    have hd : PyData.tuple (l.map eI) = eL l := rfl
    rw [hd] at hi
    simp [mIn, hx, hi, sSeq, sAsg, sAsgL, sRet, sDrop, sIf, sNext, mVar, mC, lNil, lCons, lLst, mTup, rX, rVar, look, fzL, m1, l1, mOp, mIx, mCall, tX, tAn, tOrr, tNo, tTrue, mIf, mAn, mOrr, mNo, mNeg, bName, bTup, bTupL, bCons, bNil, items, fLen, fTuple, fit_ok, isL, start0, runP, wpG, mSl, lSl, oX, oNo]
  have hi : (iLs (fzL (l1 fSortT (rX (fzL (lKeysT 1)))))) [v, .dT D, .dat (eL l), c3, c4, c5] = some ((srt ks).map eL, any_, [v, .dT D, .dat (eL l), c3, c4, c5]) := by
    have hk := keys_eL h
    simp [iLs, lKeysT, hk, hs, -List.map_map, sSeq, sAsg, sAsgL, sRet, sDrop, sIf, sNext, mVar, mC, lNil, lCons, lLst, mTup, rX, rVar, look, fzL, m1, l1, mOp, mIx, mCall, tX, tAn, tOrr, tNo, tTrue, mIf, mAn, mOrr, mNo, mNeg, bName, bTup, bTupL, bCons, bNil, items, fLen, fTuple, fit_ok, isL, start0, runP, wpG, mSl, lSl, oX, oNo]
  have hw : wpG [v, .dT D, .dat (eL l), c3, c4, c5] [5] = [v, .dT D, .dat (eL l), c3, c4, .no] := rfl
  unfold pbComp lLc
  simp only [hi, Option.bind_some, fit_ok hlen, hw, hc]
theorem pb_step {p x : Pl} {S : List (List Nat)} {D : List (List L2.Key × PyData)} (hn : Next p x S) (hp : (leaves p).length ≤ 1000) (hD : D.Perm (dic (kfl kl) (vfm eP) (done S) p)) (v c3 c4 c5 : Cell) :
    ∃ D' d3 d4 d5, pbBody [v, .dT D, .dat (eL (lot x)), c3, c4, c5] = some (.nx, [v, .dT D', .dat (eL (lot x)), d3, d4, d5]) ∧ D'.Perm (dic (kfl kl) (vfm eP) (done (S ++ [lot x])) p) := by
  have hDl : D.length ≤ 1000 := by
    rw [hD.length_eq]
    unfold dic
    rw [List.length_map]
    exact Nat.le_trans (tops_len p) hp
  obtain ⟨ks, h1, h2, h3⟩ := law_step (ev := eP) (pr := pr2) kl_inj (fun _ _ => rfl) hn hD
  have hc := pb_comp h1 h2 hDl (lot x) v c3 c4 c5
  have hk := keyT_eL (lot x)
  have sh1 : ∀ L : List (List Nat), Sh 2 (.list (L.map eL)) := fun L => Sh.lst fun d m => by
    obtain ⟨l, _, rfl⟩ := List.mem_map.mp m
    exact sh_eL l
  have she : Sh 2 (.list []) := sh1 []
  rcases h3 with ⟨s, rfl, es, h4, h5⟩ | ⟨k1, k2, v1, v2, h4, h5, h6, h7, h8⟩
  · refine ⟨_, .dat (.list []), .dat (eI s), .no, ?_, h5⟩
    rw [h4] at hc
    have hx : fIx (eL (lot (.leaf s))) (.int 0) = some (eI s) := by rw [es]; simp [fIx, atI, ixN, eL]
    have hq := fEq_same (neg := false) she (by decide)
    have hf : D.length ≤ 100000 := by omega
    unfold pbBody
    simp [hc, hq, hx, sFor, iLs, forGo, sDPt, isDc, hf, hk, sSeq, sAsg, sAsgL, sRet, sDrop, sIf, sNext, mVar, mC, lNil, lCons, lLst, mTup, rX, rVar, look, fzL, m1, l1, mOp, mIx, mCall, tX, tAn, tOrr, tNo, tTrue, mIf, mAn, mOrr, mNo, mNeg, bName, bTup, bTupL, bCons, bNil, items, fLen, fTuple, fit_ok, isL, start0, runP, wpG, mSl, lSl, oX, oNo]
    rfl
  · refine ⟨_, .dat (.list [eL k1, eL k2]), .dat (.tuple [v1, v2]), .dat (eL k2), ?_, h8⟩
    rw [h4] at hc
    have x0 : fIx (.list [eL k1, eL k2]) (.int 0) = some (eL k1) := by simp [fIx, atI, ixN]
    have x1 : fIx (.list [eL k1, eL k2]) (.int 1) = some (eL k2) := by simp [fIx, atI, ixN]
    have hq := fEq_sh (neg := false) (sh1 [k1, k2]) she (by decide) (by decide)
    have hne : ¬ PyData.list ([k1, k2].map eL) = .list [] := fun e => by cases e
    simp only [hne, decide_false, Bool.false_eq_true, if_false] at hq
    have g1 := keyT_eL k1
    have g2 := keyT_eL k2
    have q1 : getD' D (kl k1) = some v1 := h5
    have q2 : getD' D (kl k2) = some v2 := h6
    obtain ⟨v3, h7⟩ := Option.isSome_iff_exists.mp h7
    have q3 : getD' (dropD D (kl k1)) (kl k2) = some v3 := h7
    have hf : (dropD (dropD D (kl k1)) (kl k2)).length ≤ 100000 := Nat.le_trans (Nat.le_trans (List.length_filter_le _ _) (List.length_filter_le _ _)) (by omega)
    unfold pbBody
    simp only [List.map_cons, List.map_nil] at hq hc
    simp [hc, hq, x0, x1, sFor, iLs, forGo, mDPop, isDT, mDGet, askD, sDPt, isDc, hf, hk, g1, g2, q1, q2, q3, -List.map_cons, sSeq, sAsg, sAsgL, sRet, sDrop, sIf, sNext, mVar, mC, lNil, lCons, lLst, mTup, rX, rVar, look, fzL, m1, l1, mOp, mIx, mCall, tX, tAn, tOrr, tNo, tTrue, mIf, mAn, mOrr, mNo, mNeg, bName, bTup, bTupL, bCons, bNil, items, fLen, fTuple, fit_ok, isL, start0, runP, wpG, mSl, lSl, oX, oNo]
    rfl
theorem pb_go {p : Pl} {L : List (List Nat)} (nd : (leaves p).Nodup) (hp : (leaves p).length ≤ 1000) (hL : L.Perm ((subs p).map lot)) (hs : L.Pairwise fun a b => a.length ≤ b.length) (v : Cell) (rest : List (List Nat)) :
    ∀ (S : List (List Nat)) (D : List (List L2.Key × PyData)) (c2 c3 c4 c5 : Cell), L = S ++ rest → D.Perm (dic (kfl kl) (vfm eP) (done S) p) →
      ∃ D' d2 d3 d4 d5, forGo (bName 2) pbBody (rest.map eL) [v, .dT D, c2, c3, c4, c5] = some (.nx, [v, .dT D', d2, d3, d4, d5]) ∧ D'.Perm (dic (kfl kl) (vfm eP) (done L) p) := by
  induction rest with
  | nil => exact fun S D c2 c3 c4 c5 e hD => ⟨D, c2, c3, c4, c5, rfl, by rw [e, List.append_nil]; exact hD⟩
  | cons l rest ih =>
    intro S D c2 c3 c4 c5 e hD
    obtain ⟨x, rfl, hn⟩ := next_of nd hL hs e
    obtain ⟨D1, d3, d4, d5, h1, h2⟩ := pb_step hn hp hD v c3 c4 c5
    obtain ⟨D2, f2, f3, f4, f5, h3, h4⟩ := ih (S ++ [lot x]) D1 (.dat (eL (lot x))) d3 d4 d5 (by rw [e]; simp) h2
    refine ⟨D2, f2, f3, f4, f5, ?_, h4⟩
    have hb : bName 2 (eL (lot x)) [v, .dT D, c2, c3, c4, c5] = some [v, .dT D, .dat (eL (lot x)), c3, c4, c5] := by simp [bName]
    rw [List.map_cons, forGo, hb, Option.bind_some, h1]
    exact h3
/-! ### lots by lengths, then by themselves -/
theorem le_of_keyLe {a b : List Int} (h : PySem.W.dataLe false keyN a b = true) : a.length ≤ b.length := by
  rw [PySem.W.dataLe_eq] at h
  have h : (!PySem.W.dataLt (keyN b) (keyN a)) = true := h
  have e : PySem.W.dataLt (keyN b) (keyN a) = false := by simpa using h
  unfold keyN at e
  rw [PySem.W.dataLt_pair (by rfl) (by show PySem.W.alike _ _ = true; exact MM.alike_ints b a)] at e
  by_cases c : (b.length : Int) = a.length
  · omega
  · have ne : PyData.eqv (.int (b.length : Int)) (.int (a.length : Int)) = false := by simp [PyData.eqv]; omega
    rw [ne] at e
    simp only [Bool.false_eq_true, if_false, PySem.W.dataLt_int] at e
    simp at e
    omega
theorem fSortKey_eL (L : List (List Nat)) : ∃ B : List (List Nat), fSortKey (.tuple (L.map eL)) = some (B.map eL) ∧ B.Perm L ∧ B.Pairwise fun a b => a.length ≤ b.length := by
  let ci : List Nat → List Int := fun l => l.map fun (n : Nat) => (n : Int)
  have e : sortN (L.map ci) = (L.mergeSort fun a b => PySem.W.dataLe false keyN (ci a) (ci b)).map ci := by
    unfold sortN
    rw [List.map_mergeSort]
    exact fun _ _ _ _ => rfl
  have tot : ∀ (a b : List Int), (PySem.W.dataLe false keyN a b || PySem.W.dataLe false keyN b a) = true := fun a b => (Bool.or_eq_true _ _).mpr ((PySem.W.sortLe_total (listOrd itemOrd) false fun b : List Int => PySem.W.keyToks (keyN b)).total a b)
  have tr : ∀ (a b c : List Int), PySem.W.dataLe false keyN a b = true → PySem.W.dataLe false keyN b c = true → PySem.W.dataLe false keyN a c = true := fun a b c => (PySem.W.sortLe_total (listOrd itemOrd) false fun b : List Int => PySem.W.keyToks (keyN b)).trans a b c
  refine ⟨L.mergeSort fun a b => PySem.W.dataLe false keyN (ci a) (ci b), ?_, List.mergeSort_perm _ _, ?_⟩
  · have hn : nssOf (L.map eL) = some (L.map ci) := nss_eL L
    simp only [fSortKey, itemsD, Option.bind_some, hn, e, List.map_map]
    congr 1
    refine List.map_congr_left fun l _ => ?_
    simp [tupN, eL, eI, ci]
  · have h := List.pairwise_mergeSort (le := fun a b : List Nat => PySem.W.dataLe false keyN (ci a) (ci b)) (fun a b c => tr _ _ _) (fun a b => tot _ _) L
    refine h.imp fun {a b} h => ?_
    have := le_of_keyLe h
    simpa [ci] using this
theorem ev_plan_by {p : Pl} (nd : (leaves p).Nodup) (hp : (leaves p).length ≤ 1000) {L : List (List Nat)} (hL : L.Perm ((subs p).map lot)) : m_plan_by [.tuple (L.map eL)] = some (eP (formed p)) := by
  obtain ⟨B, hB, hBp, hBs⟩ := fSortKey_eL L
  have hB' := hBp.trans hL
  obtain ⟨D, d2, d3, d4, d5, h1, h2⟩ := pb_go nd hp hB' hBs (.dat (.tuple (L.map eL))) B [] [] .no .no .no .no rfl (by rw [dic_nil])
  have h3 := dic_all (hB'.mem_iff.mpr (List.mem_map.mpr ⟨p, self_sub p, rfl⟩)) h2
  subst h3
  have hbody : b_plan_by = sSeq (sNewT 1) (sSeq (sFor (iLs (fzL (l1 fSortKey (rX (mVar 0))))) (bName 2) pbBody) (sRet (mIx (rX (fzL (lValsT 1))) (mC (.int 0))))) := rfl
  unfold m_plan_by
  rw [hbody]
  simp [sNewT, sFor, iLs, hB, h1, lValsT, fIx, atI, ixN, -List.map_map, sSeq, sAsg, sAsgL, sRet, sDrop, sIf, sNext, mVar, mC, lNil, lCons, lLst, mTup, rX, rVar, look, fzL, m1, l1, mOp, mIx, mCall, tX, tAn, tOrr, tNo, tTrue, mIf, mAn, mOrr, mNo, mNeg, bName, bTup, bTupL, bCons, bNil, items, fLen, fTuple, fit_ok, isL, start0, runP, wpG, mSl, lSl, oX, oNo]
end Tst


namespace Tst
open PySem PySem.Spec PyProof.Rows L2 MM LM
variable [Tb]
/-! ### draws -/
theorem p63 : (2 : Int) ^ 63 = 9223372036854775808 := by rfl
theorem in63 (i : Int) (h : 0 ≤ i) (k : i ≤ 1000000) : -((2 : Int) ^ 63) ≤ i ∧ i < 2 ^ 63 := by
  rw [p63]
  omega
theorem if63 {α : Type} {k : Int} (h0 : 0 ≤ k) (h1 : k ≤ 1000000) (a b : α) : (if -(2 ^ 63) ≤ k ∧ k < 2 ^ 63 then a else b) = a := if_pos (in63 k h0 h1)
theorem seqIx_nat {r n : Nat} (h : r < n) : seqIndex? (r : Int) n = some r := by
  unfold seqIndex?
  have h1 : ¬ (r : Int) < 0 := by omega
  have h2 : (0 : Int) ≤ r ∧ (r : Int) < n := by omega
  simp [h1, h2]
theorem popAt_at0 {Γ Γ' : Ga} {m : MX} {i : Nat} {ds0 ds : List PyData} {r : Int} {r' : Nat} {d : PyData} (h0 : Γ[i]? = some (.lst ds0)) (hm : m Γ = some (.int r, Γ')) (h1 : Γ'[i]? = some (.lst ds)) (hr : 0 ≤ r) (hl : r ≤ 1000000) (hq : seqIndex? r ds.length = some r') (hd : ds[r']? = some d) :
    mPopAt i m Γ = some (d, Γ'.set i (.lst (ds.eraseIdx r'))) := by
  simp only [mPopAt, isL, h0, hm, h1, Option.bind_some]
  rw [if63 hr hl, hq]
  simp only [Option.bind_some, hd]
theorem popAt_at {Γ Γ' : Ga} {m : MX} {i : Nat} {ds0 ds : List PyData} {r : Nat} {d : PyData} (h0 : Γ[i]? = some (.lst ds0)) (hm : m Γ = some (.int r, Γ')) (h1 : Γ'[i]? = some (.lst ds)) (hr : r < ds.length) (hl : r ≤ 100000) (hd : ds[r]? = some d) :
    mPopAt i m Γ = some (d, Γ'.set i (.lst (ds.eraseIdx r))) := popAt_at0 h0 hm h1 (by omega) (by omega) (seqIx_nat hr) hd
theorem pick_nat (g : Gn) {n : Nat} (h : 1 ≤ n) (hn : n < 1000000) : ∃ (r : Nat) (g' : Gn), r < n ∧ m_pick g [.int n] = some (.int r, g') := by
  have := pickG_range g (n := (n : Int)) (by omega)
  refine ⟨(pickG g n).1.toNat, (pickG g n).2, by omega, ?_⟩
  simp only [m_pick]
  rw [if_pos (by omega), Int.toNat_of_nonneg this.1]
noncomputable def pk : MX := mCallS 0 m_pick (lCons (m1 fLen (rVar 2)) lNil)
theorem pk_at0 {g g' : Gn} {v : Cell} {ds : List PyData} {r : Ga} {n k : Int} (hn : fLen (.list ds) = some (.int n)) (hp : m_pick g [.int n] = some (.int k, g')) : pk (.src g :: v :: .lst ds :: r) = some (.int k, .src g' :: v :: .lst ds :: r) := by
  simp [pk, mCallS, hn, hp, sSeq, sAsg, sAsgL, sRet, sDrop, sIf, sNext, mVar, mC, lNil, lCons, lLst, mTup, rX, rVar, look, fzL, m1, l1, mOp, mIx, mCall, tX, tAn, tOrr, tNo, tTrue, mIf, mAn, mOrr, mNo, mNeg, bName, bTup, bTupL, bCons, bNil, fit_ok, isL, start0, runP, wpG, mSl, lSl, oX, oNo]
theorem fLen_list (ds : List PyData) : fLen (.list ds) = some (.int (ds.length : Nat)) := rfl
theorem pop_q0 (g : Gn) (v : Cell) (ds : List PyData) (r : Ga) : (Cell.src g :: v :: .lst ds :: r)[2]? = some (.lst ds) := rfl
theorem pop_q1 (g : Gn) (v : Cell) (ds es : List PyData) (r : Ga) : (Cell.src g :: v :: .lst ds :: r).set 2 (.lst es) = .src g :: v :: .lst es :: r := rfl
theorem pop_q2 {g g' : Gn} {v : Cell} {ds : List PyData} {r : Ga} {k : Nat} {d : PyData} (h1 : k < ds.length) (hl : k ≤ 100000) (hp : pk (.src g :: v :: .lst ds :: r) = some (.int k, .src g' :: v :: .lst ds :: r)) (hd : ds[k]? = some d) : mPopAt 2 pk (.src g :: v :: .lst ds :: r) = some (d, .src g' :: v :: .lst (ds.eraseIdx k) :: r) := by
  have := popAt_at (pop_q0 g v ds r) hp (pop_q0 g' v ds r) h1 hl hd
  rw [pop_q1] at this
  exact this
theorem pop_q3 (g : Gn) {v : Cell} {ds : List PyData} {r : Ga} (h : 1 ≤ ds.length) (hl : ds.length ≤ 50000) : ∃ (k : Nat) (g' : Gn), k < ds.length ∧ pk (.src g :: v :: .lst ds :: r) = some (.int k, .src g' :: v :: .lst ds :: r) := by
  have hn : ds.length < 1000000 := by omega
  obtain ⟨k, g', h1, h2⟩ := pick_nat g h hn
  exact ⟨k, g', h1, pk_at0 (fLen_list ds) h2⟩
theorem pop_at (g : Gn) (v : Cell) (ds : List PyData) (r : Ga) (h : 1 ≤ ds.length) (hl : ds.length ≤ 50000) : ∃ (k : Nat) (g' : Gn) (hk : k < ds.length), mPopAt 2 pk (.src g :: v :: .lst ds :: r) = some (ds[k], .src g' :: v :: .lst (ds.eraseIdx k) :: r) := by
  obtain ⟨k, g', h1, h2⟩ := pop_q3 g (v := v) (r := r) h hl
  have hk : k ≤ 100000 := by omega
  exact ⟨k, g', h1, pop_q2 h1 hk h2 (List.getElem?_eq_getElem h1)⟩
theorem erase_perm {α : Type} : ∀ {l : List α} {k : Nat} (h : k < l.length), (l[k] :: l.eraseIdx k).Perm l
  | a :: l, 0, _ => .refl _
  | a :: l, k + 1, h => by
    have h' : k < l.length := by simpa using h
    have ih := erase_perm h'
    show (l[k] :: a :: l.eraseIdx k).Perm (a :: l)
    exact (List.Perm.swap _ _ _).trans (ih.cons _)
theorem erase_map {α β : Type} (f : α → β) : ∀ (l : List α) (k : Nat), (l.map f).eraseIdx k = (l.eraseIdx k).map f
  | [], _ => rfl
  | _ :: _, 0 => rfl
  | a :: l, k + 1 => by
    show f a :: (l.map f).eraseIdx k = f a :: (l.eraseIdx k).map f
    rw [erase_map f l k]
noncomputable def aoC (J : List PyData) (Γ : Ga) : Option (List PyData × Ga) := compGo any_ (bName 3) tTrue (mPopAt 2 pk) [3] J Γ
theorem aoC_nil (Γ : Ga) : aoC [] Γ = some ([], Γ) := by
  unfold aoC
  rw [compGo, if_pos (show any_ Γ from trivial)]
theorem aoC_cons {j d : PyData} {J : List PyData} {Γ Γ1 Γ2 Γ3 : Ga} (h1 : bName 3 j Γ = some Γ1) (h2 : mPopAt 2 pk Γ1 = some (d, Γ2)) (h3 : wpG Γ2 [3] = Γ3) : aoC (j :: J) Γ = (aoC J Γ3).bind fun z => some (d :: z.1, z.2) := by
  unfold aoC
  rw [compGo, if_pos (show any_ Γ from trivial), h1]
  simp only [Option.bind_some, tTrue, if_true, h2, h3]
theorem ao_q1 (g : Gn) (v c : Cell) (ds : List PyData) (j : PyData) : bName 3 j [.src g, v, .lst ds, c] = some [.src g, v, .lst ds, .dat j] := rfl
theorem ao_q2 (g : Gn) (v c : Cell) (ds : List PyData) : wpG [.src g, v, .lst ds, c] [3] = [.src g, v, .lst ds, .no] := rfl
theorem ao_go (J : List PyData) : ∀ (rest : List PyData) (g : Gn) (v : Cell), rest.length = J.length → rest.length ≤ 50000 → ∃ es g', aoC J [.src g, v, .lst rest, .no] = some (es, [.src g', v, .lst [], .no]) ∧ es.Perm rest := by
  induction J with
  | nil =>
    intro rest g v h _
    have : rest = [] := List.eq_nil_of_length_eq_zero h
    subst this
    exact ⟨[], g, aoC_nil _, .refl _⟩
  | cons j J ih =>
    intro rest g v h hl
    rw [List.length_cons] at h
    have h1 : 1 ≤ rest.length := by omega
    obtain ⟨k, g1, hk, e1⟩ := pop_at g v rest [.dat j] h1 hl
    have hlen : (rest.eraseIdx k).length = J.length := by rw [List.length_eraseIdx_of_lt hk, h, Nat.add_sub_cancel]
    have hl2 : (rest.eraseIdx k).length ≤ 50000 := by rw [hlen]; omega
    obtain ⟨es, g2, e2, p2⟩ := ih (rest.eraseIdx k) g1 v hlen hl2
    refine ⟨rest[k] :: es, g2, ?_, (p2.cons _).trans (erase_perm hk)⟩
    rw [aoC_cons (ao_q1 g v .no rest j) e1 (ao_q2 g1 v _ _), e2]
    rfl
end Tst


namespace Tst
open PySem PySem.Spec PyProof.Rows L2 MM LM
variable [Tb]
theorem intsD_len (i : Int) (n : Nat) : (intsD i n).length = n := by simp [intsD]
theorem ao_run (g g' : Gn) (ds es : List PyData) (m : MX) (hm : m [.src g, .dat (.list ds), .lst ds, .no] = some (.list es, [.src g', .dat (.list ds), .lst [], .no])) : runS 4 1 (sSeq (sAsgL 2 (l1 items (rX (mVar 1)))) (sRet m)) g [.list ds] = some (.list es, g') := by
  have hs : startS 4 g [.list ds] = [.src g, .dat (.list ds), .no, .no] := rfl
  have h0 : sAsgL 2 (l1 items (rX (mVar 1))) [.src g, .dat (.list ds), .no, .no] = some (.nx, [.src g, .dat (.list ds), .lst ds, .no]) := rfl
  simp only [runS, hs, List.length_cons, List.length_nil, sSeq, h0, Option.bind_some, sRet, hm]
  rfl
theorem ao_lc {mi : MI} {b : MB} {t : MT} {m : MX} {vs : List Nat} {Γ Γ' : Ga} {J es : List PyData} (h1 : mi Γ = some (J, any_, Γ)) (h2 : J.length ≤ 100000) (h3 : wpG Γ vs = Γ) (h4 : compGo any_ b t m vs J Γ = some (es, Γ')) : fzL (lLc mi b t m vs) Γ = some (.list es, Γ') := by
  unfold fzL lLc
  rw [h1, Option.bind_some, fit_ok h2, Option.bind_some, h3, h4]
  rfl
theorem ao_len (g : Gn) (ds : List PyData) : (m1 fLen (rVar 2)) [.src g, .dat (.list ds), .lst ds, .no] = some (.int (ds.length : Nat), [.src g, .dat (.list ds), .lst ds, .no]) := rfl
theorem ev_any_order (g : Gn) (ds : List PyData) (hl : ds.length ≤ 50000) : ∃ es g', m_any_order g [.list ds] = some (.list es, g') ∧ es.Perm ds := by
  obtain ⟨es, g', e, p⟩ := ao_go (intsD 0 ds.length) ds g (.dat (.list ds)) (by rw [intsD_len]) hl
  refine ⟨es, g', ?_, p⟩
  have hr := iR1_nat (ao_len g ds) (by omega) (by omega)
  rw [Int.toNat_natCast] at hr
  have hf : (intsD 0 ds.length).length ≤ 100000 := by rw [intsD_len]; omega
  have hw : wpG [Cell.src g, .dat (.list ds), .lst ds, .no] [3] = [.src g, .dat (.list ds), .lst ds, .no] := rfl
  exact ao_run g g' ds es _ (ao_lc hr hf hw e)
end Tst


namespace Tst
open PySem PySem.Spec PyProof.Rows L2 MM LM
variable [Tb]
/-! ### a drawn plan -/
theorem pick_pl (Q : List Pl) (k : Nat) (hk : k < (Q.map eP).length) : ∃ q Q', (Q.map eP)[k] = eP q ∧ (Q.map eP).eraseIdx k = Q'.map eP ∧ (q :: Q').Perm Q := by
  have hk' : k < Q.length := by rw [List.length_map] at hk; exact hk
  refine ⟨Q[k], Q.eraseIdx k, by simp, ?_, erase_perm hk'⟩
  exact erase_map eP Q k
noncomputable def dpBody (m : MX) : MS := sSeq (sAsg m (bName 4)) (sDrop (mApp 2 (mTup (lCons (mVar 4) (lCons m lNil)))))
theorem dp_body {m : MX} {g g1 g2 : Gn} {v c4 : Cell} {j a b : PyData} {r0 r1 r2 : List PyData} (e1 : m [.src g, v, .lst r0, .dat j, c4] = some (a, [.src g1, v, .lst r1, .dat j, c4])) (e2 : m [.src g1, v, .lst r1, .dat j, .dat a] = some (b, [.src g2, v, .lst r2, .dat j, .dat a])) (hf : r2.length ≤ 100000) :
    dpBody m [.src g, v, .lst r0, .dat j, c4] = some (.nx, [.src g2, v, .lst (r2 ++ [.tuple [a, b]]), .dat j, .dat a]) := by
  unfold dpBody
  simp only [sSeq, sAsg, e1, Option.bind_some, bName]
  simp [mApp, e2, hf, sSeq, sAsg, sAsgL, sRet, sDrop, sIf, sNext, mVar, mC, lNil, lCons, lLst, mTup, rX, rVar, look, fzL, m1, l1, mOp, mIx, mCall, tX, tAn, tOrr, tNo, tTrue, mIf, mAn, mOrr, mNo, mNeg, bName, bTup, bTupL, bCons, bNil, items, fLen, fTuple, fit_ok, isL, start0, runP, wpG, mSl, lSl, oX, oNo]
theorem dp_go (J : List PyData) : ∀ (Q : List Pl) (g : Gn) (v c3 c4 : Cell), Q.length = J.length + 1 → Q.length ≤ 50000 → ∃ g' q c3' c4', forGo (bName 3) (dpBody (mPopAt 2 pk)) J [.src g, v, .lst (Q.map eP), c3, c4] = some (.nx, [.src g', v, .lst [eP q], c3', c4']) ∧ (leaves q).Perm (Q.flatMap leaves) := by
  induction J with
  | nil =>
    intro Q g v c3 c4 h _
    match Q, h with
    | [q], _ => exact ⟨g, q, c3, c4, rfl, by simp⟩
  | cons j J ih =>
    intro Q g v c3 c4 h hl
    rw [List.length_cons] at h
    have a1 : 1 ≤ (Q.map eP).length := by rw [List.length_map]; omega
    have a2 : (Q.map eP).length ≤ 50000 := by rw [List.length_map]; omega
    obtain ⟨k1, g1, hk1, e1⟩ := pop_at g v (Q.map eP) [.dat j, c4] a1 a2
    obtain ⟨q1, Q1, f1, f2, f3⟩ := pick_pl Q k1 hk1
    rw [f1, f2] at e1
    have l1 := f3.length_eq
    rw [List.length_cons] at l1
    have b1 : 1 ≤ (Q1.map eP).length := by rw [List.length_map]; omega
    have b2 : (Q1.map eP).length ≤ 50000 := by rw [List.length_map]; omega
    obtain ⟨k2, g2, hk2, e2⟩ := pop_at g1 v (Q1.map eP) [.dat j, .dat (eP q1)] b1 b2
    obtain ⟨q2, Q2, f4, f5, f6⟩ := pick_pl Q1 k2 hk2
    rw [f4, f5] at e2
    have l2 := f6.length_eq
    rw [List.length_cons] at l2
    have d1 : (Q2 ++ [Pl.node q1 q2]).length = J.length + 1 := by rw [List.length_append, List.length_singleton]; omega
    have d2 : (Q2 ++ [Pl.node q1 q2]).length ≤ 50000 := by rw [List.length_append, List.length_singleton]; omega
    obtain ⟨g3, q, c3', c4', e3, p3⟩ := ih (Q2 ++ [.node q1 q2]) g2 v (.dat j) (.dat (eP q1)) d1 d2
    have hf : (Q2.map eP).length ≤ 100000 := by rw [List.length_map]; omega
    have hbody := dp_body e1 e2 hf
    refine ⟨g3, q, c3', c4', ?_, p3.trans ?_⟩
    · have hb : bName 3 j [.src g, v, .lst (Q.map eP), c3, c4] = some [.src g, v, .lst (Q.map eP), .dat j, c4] := rfl
      rw [forGo, hb, Option.bind_some, hbody]
      rw [List.map_append] at e3
      exact e3
    · have p1 : (Q.flatMap leaves).Perm ((q1 :: q2 :: Q2).flatMap leaves) := List.Perm.flatMap_right _ (f3.symm.trans (f6.symm.cons _))
      refine List.Perm.trans ?_ p1.symm
      simp only [List.flatMap_append, List.flatMap_cons, List.flatMap_nil, List.append_nil, leaves]
      refine List.perm_append_comm.trans ?_
      rw [List.append_assoc]
theorem range_eI (n : Nat) : intsD 0 n = (List.range n).map eI := by
  unfold intsD
  refine List.map_congr_left fun k _ => ?_
  simp [eI]
end Tst


namespace Tst
open PySem PySem.Spec PyProof.Rows L2 MM LM
variable [Tb]
theorem dp_run {g g' : Gn} {ds : List PyData} {q : PyData} {mi : MI} {J : List PyData} {m : MS} {c3 c4 : Cell} (h1 : mi [.src g, .dat (.list ds), .lst ds, .no, .no] = some (J, any_, [.src g, .dat (.list ds), .lst ds, .no, .no])) (h2 : forGo (bName 3) m J [.src g, .dat (.list ds), .lst ds, .no, .no] = some (.nx, [.src g', .dat (.list ds), .lst [q], c3, c4])) :
    runS 5 1 (sSeq (sAsgL 2 (l1 items (rX (mVar 1)))) (sSeq (sFor mi (bName 3) m) (sRet (mIx (rVar 2) (mC (.int 0)))))) g [.list ds] = some (q, g') := by
  have hs : startS 5 g [.list ds] = [.src g, .dat (.list ds), .no, .no, .no] := rfl
  have hx : fIx (.list [q]) (.int 0) = some q := by simp [fIx, atI, ixN]
  have h0 : sAsgL 2 (l1 items (rX (mVar 1))) [.src g, .dat (.list ds), .no, .no, .no] = some (.nx, [.src g, .dat (.list ds), .lst ds, .no, .no]) := rfl
  have h3 : sRet (mIx (rVar 2) (mC (.int 0))) [.src g', .dat (.list ds), .lst [q], c3, c4] = some (.rt q, [.src g', .dat (.list ds), .lst [q], c3, c4]) := by simp [hx, sSeq, sAsg, sAsgL, sRet, sDrop, sIf, sNext, mVar, mC, lNil, lCons, lLst, mTup, rX, rVar, look, fzL, m1, l1, mOp, mIx, mCall, tX, tAn, tOrr, tNo, tTrue, mIf, mAn, mOrr, mNo, mNeg, bName, bTup, bTupL, bCons, bNil, items, fLen, fTuple, fit_ok, isL, start0, runP, wpG, mSl, lSl, oX, oNo]
  simp only [runS, hs, List.length_cons, List.length_nil, sSeq, h0, Option.bind_some, sFor, h1, h2, h3]
  rfl
theorem dp_len {g : Gn} {ds : List PyData} {n : Int} (hn : fLen (.list ds) = some (.int n)) : (mOp fSub (m1 fLen (rX (mVar 1))) (mC (.int 1))) [.src g, .dat (.list ds), .lst ds, .no, .no] = some (.int (n - 1), [.src g, .dat (.list ds), .lst ds, .no, .no]) := by
  have hsub : fSub (.int n) (.int 1) = some (.int (n - 1)) := rfl
  simp [hn, hsub, sSeq, sAsg, sAsgL, sRet, sDrop, sIf, sNext, mVar, mC, lNil, lCons, lLst, mTup, rX, rVar, look, fzL, m1, l1, mOp, mIx, mCall, tX, tAn, tOrr, tNo, tTrue, mIf, mAn, mOrr, mNo, mNeg, bName, bTup, bTupL, bCons, bNil, fit_ok, isL, start0, runP, wpG, mSl, lSl, oX, oNo]
theorem flat_leaf : ∀ l : List Nat, (l.map Pl.leaf).flatMap leaves = l
  | [] => rfl
  | a :: l => by
    rw [List.map_cons, List.flatMap_cons, flat_leaf l]
    rfl
theorem ev_draw_plan (g : Gn) (n : Nat) (h : 1 ≤ n) (hn : n ≤ 1000) : ∃ q g', m_draw_plan g [.list (intsD 0 n)] = some (eP q, g') ∧ (leaves q).Perm (List.range n) := by
  have hQ : intsD 0 n = ((List.range n).map Pl.leaf).map eP := by
    rw [range_eI, List.map_map]
    rfl
  have a1 : ((List.range n).map Pl.leaf).length = (intsD 0 (n - 1)).length + 1 := by rw [intsD_len, List.length_map, List.length_range]; omega
  have a2 : ((List.range n).map Pl.leaf).length ≤ 50000 := by rw [List.length_map, List.length_range]; omega
  obtain ⟨g', q, c3, c4, e, p⟩ := dp_go (intsD 0 (n - 1)) ((List.range n).map Pl.leaf) g (.dat (.list (intsD 0 n))) .no .no a1 a2
  rw [← hQ] at e
  rw [flat_leaf] at p
  refine ⟨q, g', ?_, p⟩
  have hlen : fLen (.list (intsD 0 n)) = some (.int (n : Nat)) := by rw [fLen_list, intsD_len]
  have hr := iR1_nat (dp_len (g := g) hlen) (by omega) (by omega)
  rw [show ((n : Int) - 1).toNat = n - 1 by omega] at hr
  exact dp_run hr e
end Tst


namespace Tst
open PySem PySem.Spec PyProof.Rows L2 MM LM
variable [Tb]
/-! ### a plan turned -/
noncomputable def bT (rec : Gn → List PyData → Option (PyData × Gn)) (m : MX) : MS := (sSeq (sIf (tNo (tX (mIsi "tuple" (mVar 1)))) (sRet (mVar 1)) sNext)
  (sSeq (sParXX 2 3 (mCallS 0 rec (lCons (mIx (rX (mVar 1)) (mC (.int 0))) lNil)) (mCallS 0 rec (lCons (mIx (rX (mVar 1)) (mC (.int 1))) lNil)))
  (sRet (mIf (tX (mOp (fEq false) m (mC (.int 0)))) (mTup (lCons (mVar 2) (lCons (mVar 3) lNil))) (mTup (lCons (mVar 3) (lCons (mVar 2) lNil)))))))
theorem bT_leaf (rec : Gn → List PyData → Option (PyData × Gn)) (m : MX) (g : Gn) (s : Int) : runS 4 1 (bT rec m) g [.int s] = some (.int s, g) := by
  have hs : startS 4 g [PyData.int s] = [.src g, .dat (.int s), .no, .no] := rfl
  have h0 : sIf (tNo (tX (mIsi "tuple" (mVar 1)))) (sRet (mVar 1)) sNext [.src g, .dat (.int s), .no, .no] = some (.rt (.int s), [.src g, .dat (.int s), .no, .no]) := by simp [mIsi, isi_int_tup, sSeq, sAsg, sAsgL, sRet, sDrop, sIf, sNext, mVar, mC, lNil, lCons, lLst, mTup, rX, rVar, look, fzL, m1, l1, mOp, mIx, mCall, tX, tAn, tOrr, tNo, tTrue, mIf, mAn, mOrr, mNo, mNeg, bName, bTup, bTupL, bCons, bNil, items, fLen, fTuple, fit_ok, isL, start0, runP, wpG, mSl, lSl, oX, oNo]
  simp only [runS, hs, List.length_cons, List.length_nil, bT, sSeq, h0, Option.bind_some]
  rfl
theorem bT_node {rec : Gn → List PyData → Option (PyData × Gn)} {m : MX} {g g1 g2 g3 : Gn} {a b a' b' : PyData} {r : Int} (ea : rec g [a] = some (a', g1)) (eb : rec g1 [b] = some (b', g2)) (em : m [.src g2, .dat (.tuple [a, b]), .dat a', .dat b'] = some (.int r, [.src g3, .dat (.tuple [a, b]), .dat a', .dat b'])) :
    runS 4 1 (bT rec m) g [.tuple [a, b]] = some ((if r = 0 then .tuple [a', b'] else .tuple [b', a']), g3) := by
  have hs : startS 4 g [PyData.tuple [a, b]] = [.src g, .dat (.tuple [a, b]), .no, .no] := rfl
  have i0 : fIx (.tuple [a, b]) (.int 0) = some a := by simp [fIx, atI, ixN]
  have i1 : fIx (.tuple [a, b]) (.int 1) = some b := by simp [fIx, atI, ixN]
  have h0 : sIf (tNo (tX (mIsi "tuple" (mVar 1)))) (sRet (mVar 1)) sNext [.src g, .dat (.tuple [a, b]), .no, .no] = some (.nx, [.src g, .dat (.tuple [a, b]), .no, .no]) := by simp [mIsi, isi_tup_tup, sSeq, sAsg, sAsgL, sRet, sDrop, sIf, sNext, mVar, mC, lNil, lCons, lLst, mTup, rX, rVar, look, fzL, m1, l1, mOp, mIx, mCall, tX, tAn, tOrr, tNo, tTrue, mIf, mAn, mOrr, mNo, mNeg, bName, bTup, bTupL, bCons, bNil, items, fLen, fTuple, fit_ok, isL, start0, runP, wpG, mSl, lSl, oX, oNo]
  have h1 : sParXX 2 3 (mCallS 0 rec (lCons (mIx (rX (mVar 1)) (mC (.int 0))) lNil)) (mCallS 0 rec (lCons (mIx (rX (mVar 1)) (mC (.int 1))) lNil)) [.src g, .dat (.tuple [a, b]), .no, .no] = some (.nx, [.src g2, .dat (.tuple [a, b]), .dat a', .dat b']) := by
    simp [sParXX, mCallS, i0, i1, ea, eb, sSeq, sAsg, sAsgL, sRet, sDrop, sIf, sNext, mVar, mC, lNil, lCons, lLst, mTup, rX, rVar, look, fzL, m1, l1, mOp, mIx, mCall, tX, tAn, tOrr, tNo, tTrue, mIf, mAn, mOrr, mNo, mNeg, bName, bTup, bTupL, bCons, bNil, items, fLen, fTuple, fit_ok, isL, start0, runP, wpG, mSl, lSl, oX, oNo]
  have h2 : sRet (mIf (tX (mOp (fEq false) m (mC (.int 0)))) (mTup (lCons (mVar 2) (lCons (mVar 3) lNil))) (mTup (lCons (mVar 3) (lCons (mVar 2) lNil)))) [.src g2, .dat (.tuple [a, b]), .dat a', .dat b'] = some (.rt (if r = 0 then .tuple [a', b'] else .tuple [b', a']), [.src g3, .dat (.tuple [a, b]), .dat a', .dat b']) := by
    by_cases c : r = 0
    · subst c
      simp [em, fEq_int, sSeq, sAsg, sAsgL, sRet, sDrop, sIf, sNext, mVar, mC, lNil, lCons, lLst, mTup, rX, rVar, look, fzL, m1, l1, mOp, mIx, mCall, tX, tAn, tOrr, tNo, tTrue, mIf, mAn, mOrr, mNo, mNeg, bName, bTup, bTupL, bCons, bNil, items, fLen, fTuple, fit_ok, isL, start0, runP, wpG, mSl, lSl, oX, oNo]
    · simp [em, fEq_int, c, sSeq, sAsg, sAsgL, sRet, sDrop, sIf, sNext, mVar, mC, lNil, lCons, lLst, mTup, rX, rVar, look, fzL, m1, l1, mOp, mIx, mCall, tX, tAn, tOrr, tNo, tTrue, mIf, mAn, mOrr, mNo, mNeg, bName, bTup, bTupL, bCons, bNil, items, fLen, fTuple, fit_ok, isL, start0, runP, wpG, mSl, lSl, oX, oNo]
  simp only [runS, hs, List.length_cons, List.length_nil, bT, sSeq, h0, h1, h2, Option.bind_some]
  rfl
theorem pick_two {i : Nat} (n : Int) {g g' : Gn} {r : Int} {Γ : Ga} (h : Γ[i]? = some (.src g)) (hp : m_pick g [.int n] = some (.int r, g')) : mCallS i m_pick (lCons (mC (.int n)) lNil) Γ = some (.int r, Γ.set i (.src g')) := by
  simp [mCallS, h, hp, sSeq, sAsg, sAsgL, sRet, sDrop, sIf, sNext, mVar, mC, lNil, lCons, lLst, mTup, rX, rVar, look, fzL, m1, l1, mOp, mIx, mCall, tX, tAn, tOrr, tNo, tTrue, mIf, mAn, mOrr, mNo, mNeg, bName, bTup, bTupL, bCons, bNil, items, fLen, fTuple, fit_ok, isL, start0, runP, wpG, mSl, lSl, oX, oNo]
theorem ev_turned : ∀ (p : Pl) (k : Nat) (g : Gn), (leaves p).length ≤ k → ∃ q g', m_turned k g [eP p] = some (eP q, g') ∧ (leaves q).Perm (leaves p)
  | .leaf s, 0, g, h => absurd h (by simp [leaves])
  | .leaf s, k + 1, g, _ => ⟨.leaf s, g, bT_leaf (m_turned k) (mCallS 0 m_pick (lCons (mC (.int 2)) lNil)) g s, .refl _⟩
  | .node a b, 0, g, h => absurd h (by have := leaves_pos (.node a b); omega)
  | .node a b, k + 1, g, h => by
    have pa := leaves_pos a
    have pb := leaves_pos b
    have hn : (leaves (.node a b)).length = (leaves a).length + (leaves b).length := by simp [leaves]
    obtain ⟨qa, g1, ea, pa'⟩ := ev_turned a k g (by omega)
    obtain ⟨qb, g2, eb, pb'⟩ := ev_turned b k g1 (by omega)
    obtain ⟨r, g3, hr, e3⟩ := pick_nat g2 (n := 2) (by decide) (by decide)
    have em := pick_two (i := 0) (Γ := [.src g2, .dat (.tuple [eP a, eP b]), .dat (eP qa), .dat (eP qb)]) ((2 : Nat) : Int) rfl e3
    have hh := bT_node ea eb em
    by_cases c : (r : Int) = 0
    · rw [if_pos c] at hh
      exact ⟨.node qa qb, g3, hh, pa'.append pb'⟩
    · rw [if_neg c] at hh
      exact ⟨.node qb qa, g3, hh, (pb'.append pa').trans List.perm_append_comm⟩
end Tst


namespace Tst
open PySem PySem.Spec PyProof.Rows L2 MM LM
variable [Tb]
/-! ### all lots -/
noncomputable def alBody : MS := sAsg (fzL (lCat (rX (mVar 1)) (rX (fzL (lLc (iLs (mVar 1)) (bName 3) tTrue (mOp fCat (mVar 3) (mTup (lCons (mVar 2) lNil))) [3]))))) (bName 1)
theorem al_body (L : List (List Nat)) (k : Nat) (v : Cell) (hL : L.length ≤ 40000) (hl : ∀ l ∈ L, l.length ≤ 1000) : alBody [v, .dat (.list (L.map eL)), .dat (eI k), .no] = some (.nx, [v, .dat (.list ((L ++ L.map (· ++ [k])).map eL)), .dat (eI k), .no]) := by
  have hc : compGo any_ (bName 3) tTrue (mOp fCat (mVar 3) (mTup (lCons (mVar 2) lNil))) [3] (L.map eL) [v, .dat (.list (L.map eL)), .dat (eI k), .no] = some (L.map fun l => eL (l ++ [k]), [v, .dat (.list (L.map eL)), .dat (eI k), .no]) :=
    comp_map L fun l m => ⟨[v, .dat (.list (L.map eL)), .dat (eI k), .dat (eL l)], [v, .dat (.list (L.map eL)), .dat (eI k), .dat (eL l)], by simp [bName], rfl, by
      have hf : l.length + 1 ≤ 100000 := by have := hl l m; omega
      simp [fCat, eL, hf, sSeq, sAsg, sAsgL, sRet, sDrop, sIf, sNext, mVar, mC, lNil, lCons, lLst, mTup, rX, rVar, look, fzL, m1, l1, mOp, mIx, mCall, tX, tAn, tOrr, tNo, tTrue, mIf, mAn, mOrr, mNo, mNeg, bName, bTup, bTupL, bCons, bNil, items, fLen, fTuple, fit_ok, isL, start0, runP, wpG, mSl, lSl, oX, oNo], by simp [wpG]⟩
  have h1 : L.length ≤ 100000 := by omega
  have h2 : L.length + L.length ≤ 100000 := by omega
  have he : (L.map fun l => eL (l ++ [k])) = (L.map (· ++ [k])).map eL := by rw [List.map_map]; rfl
  unfold alBody
  simp [lCat, lLc, iLs, h1, h2, hc, -List.map_map, sSeq, sAsg, sAsgL, sRet, sDrop, sIf, sNext, mVar, mC, lNil, lCons, lLst, mTup, rX, rVar, look, fzL, m1, l1, mOp, mIx, mCall, tX, tAn, tOrr, tNo, tTrue, mIf, mAn, mOrr, mNo, mNeg, bName, bTup, bTupL, bCons, bNil, items, fLen, fTuple, fit_ok, isL, start0, runP, wpG, mSl, lSl, oX, oNo]
  rw [he]
end Tst


namespace Tst
open PySem PySem.Spec PyProof.Rows L2 MM LM
variable [Tb]
theorem al_go (m : Nat) : ∀ (j : Nat) (v c2 : Cell), j + m ≤ 15 → ∃ c2', forGo (bName 2) alBody ((List.range' j m).map eI) [v, .dat (.list ((allL j).map eL)), c2, .no] = some (.nx, [v, .dat (.list ((allL (j + m)).map eL)), c2', .no]) := by
  induction m with
  | zero => exact fun j v c2 _ => ⟨c2, rfl⟩
  | succ m ih =>
    intro j v c2 h
    obtain ⟨c2', e⟩ := ih (j + 1) v (.dat (eI j)) (by omega)
    refine ⟨c2', ?_⟩
    have hp : (allL j).length ≤ 40000 := by
      rw [allL_len]
      have : 2 ^ j ≤ 2 ^ 15 := Nat.pow_le_pow_right (by decide) (by omega)
      have : 2 ^ 15 = 32768 := by decide
      omega
    have hl : ∀ l ∈ allL j, l.length ≤ 1000 := fun l m => by
      have h2 := mem_allL.mp m
      have := nodup_len_le (b := List.range j) h2.1.nodup fun x hx => List.mem_range.mpr (h2.2 x hx)
      rw [List.length_range] at this
      omega
    have hb := al_body (allL j) j v hp hl
    have hn : bName 2 (eI j) [v, .dat (.list ((allL j).map eL)), c2, .no] = some [v, .dat (.list ((allL j).map eL)), .dat (eI j), .no] := by simp [bName]
    rw [List.range'_succ, List.map_cons, forGo, hn, Option.bind_some, hb]
    rw [show j + (m + 1) = j + 1 + m by omega]
    exact e
end Tst


namespace Tst
open PySem PySem.Spec PyProof.Rows L2 MM LM
variable [Tb]
theorem al_run {n : Int} {ds J : List PyData} {c2 : Cell} {mi : MI} {m : MS} (h1 : mi [.dat (.int n), .dat (.list [.tuple []]), .no, .no] = some (J, any_, [.dat (.int n), .dat (.list [.tuple []]), .no, .no])) (h2 : forGo (bName 2) m J [.dat (.int n), .dat (.list [.tuple []]), .no, .no] = some (.nx, [.dat (.int n), .dat (.list ds), c2, .no])) :
    runP 4 1 (sSeq (sAsg (fzL (lLst (lCons (mTup lNil) lNil))) (bName 1)) (sSeq (sFor mi (bName 2) m) (sRet (fzL (lSl (rX (mVar 1)) (oX (mC (.int 1))) oNo))))) [.int n] = some (.list (ds.drop 1)) := by
  have hs : start0 4 [.int n] = [.dat (.int n), .no, .no, .no] := rfl
  have h0 : sAsg (fzL (lLst (lCons (mTup lNil) lNil))) (bName 1) [.dat (.int n), .no, .no, .no] = some (.nx, [.dat (.int n), .dat (.list [.tuple []]), .no, .no]) := by simp [sSeq, sAsg, sAsgL, sRet, sDrop, sIf, sNext, mVar, mC, lNil, lCons, lLst, mTup, rX, rVar, look, fzL, m1, l1, mOp, mIx, mCall, tX, tAn, tOrr, tNo, tTrue, mIf, mAn, mOrr, mNo, mNeg, bName, bTup, bTupL, bCons, bNil, items, fLen, fTuple, fit_ok, isL, start0, runP, wpG, mSl, lSl, oX, oNo]
  have h3 : sRet (fzL (lSl (rX (mVar 1)) (oX (mC (.int 1))) oNo)) [.dat (.int n), .dat (.list ds), c2, .no] = some (.rt (.list (ds.drop 1)), [.dat (.int n), .dat (.list ds), c2, .no]) := by simp [cut_from, -List.drop_one, sSeq, sAsg, sAsgL, sRet, sDrop, sIf, sNext, mVar, mC, lNil, lCons, lLst, mTup, rX, rVar, look, fzL, m1, l1, mOp, mIx, mCall, tX, tAn, tOrr, tNo, tTrue, mIf, mAn, mOrr, mNo, mNeg, bName, bTup, bTupL, bCons, bNil, items, fLen, fTuple, fit_ok, isL, start0, runP, wpG, mSl, lSl, oX, oNo]
  simp only [runP, hs, List.length_cons, List.length_nil, if_true, sSeq, h0, Option.bind_some, sFor, h1, h2, h3]
theorem ev_all_lots (n : Nat) (h : n ≤ 15) : m_all_lots [.int n] = some (.list (((allL n).drop 1).map eL)) := by
  obtain ⟨c2', e⟩ := al_go n 0 (.dat (.int n)) .no (by omega)
  rw [Nat.zero_add] at e
  have h1 : (mVar 0) [.dat (.int (n : Int)), .dat (.list [.tuple []]), .no, .no] = some (.int (n : Int), [.dat (.int (n : Int)), .dat (.list [.tuple []]), .no, .no]) := rfl
  have hr := iR1_nat h1 (by omega) (by omega)
  rw [Int.toNat_natCast, range_eI, List.range_eq_range'] at hr
  have := al_run hr e
  rw [← List.map_drop] at this
  exact this
end Tst


namespace Tst
open PySem PySem.Spec PyProof.Rows L2 MM LM
variable [Tb]
theorem comp_mapK {kp : Ga → Prop} {b : MB} {t : MT} {m : MX} {vs : List Nat} {Γ : Ga} {α : Type} {f : α → PyData} {g : α → PyData} (hk : kp Γ) : ∀ ds : List α, (∀ d ∈ ds, ∃ Γ1 Γ3, b (f d) Γ = some Γ1 ∧ t Γ1 = some (true, Γ1) ∧ m Γ1 = some (g d, Γ3) ∧ wpG Γ3 vs = Γ) → compGo kp b t m vs (ds.map f) Γ = some (ds.map g, Γ)
  | [], _ => by
    rw [List.map_nil, compGo, if_pos hk]
    rfl
  | d :: ds, h => by
    obtain ⟨Γ1, Γ3, h1, h2, h3, h4⟩ := h d (List.mem_cons_self ..)
    have ih := comp_mapK hk ds fun e m => h e (List.mem_cons_of_mem _ m)
    rw [List.map_cons, compGo, if_pos hk, h1]
    simp only [Option.bind_some, h2, if_true, h3, h4, ih, List.map_cons]
/-! ### what is judged of lots that do not cross -/
theorem nth_mem {V : List (List Nat)} {j : Nat} (h : j < V.length) : nth V j ∈ V := by
  unfold nth
  rw [List.getD_eq_getElem?_getD, List.getElem?_eq_getElem h]
  exact List.getElem_mem h
theorem fX_none {V : List (List Nat)} (h : ∀ a ∈ V, ∀ b ∈ V, crossB a b = false) : ∀ Z : List (List Nat × Nat), (∀ p ∈ Z, p.1 ∈ V ∧ p.2 < V.length) → fX V Z = none
  | [], _ => rfl
  | p :: Z, hz => by
    obtain ⟨h1, h2⟩ := hz p (List.mem_cons_self ..)
    have e : js V p.2 p.1 = [] := by
      unfold js
      rw [List.filter_eq_nil_iff]
      intro j m
      rw [h p.1 h1 _ (nth_mem (jR_lt m))]
      decide
    rw [fX, e]
    exact fX_none h Z fun q m => hz q (List.mem_cons_of_mem _ m)
def dueD (n : Nat) (m : Nat) : PyData := if ((m : Nat) : Int) = 2 * n - 1 then .none else .tuple [.str "many", eI m]
theorem jd_ok {n : Nat} {V : List (List Nat)} (ha : asc V = true) (h : ∀ a ∈ V, ∀ b ∈ V, crossB a b = false) : jd n V = dueD n V.length := by
  unfold jd dueD
  rw [if_pos ha, fX_none h _ (zipIdx_fine V)]
theorem asc_srt {F : List (List Nat)} (h : F.Nodup) : asc (srt F) = true := adj_all lx (srt F) (srt_strict h)
theorem Sh.str (x : Str) (k : Nat) (h : PyData.canLay0 (.str x) = true) : Sh k (.str x) := ⟨rfl, h, Nat.zero_le _⟩
theorem sh_due (n m : Nat) : Sh 1 (dueD n m) := by
  unfold dueD
  split
  · exact Sh.none _
  · refine Sh.tup fun d h => ?_
    rcases List.mem_cons.mp h with rfl | h
    · exact Sh.str _ _ (by decide +kernel)
    · rw [List.mem_singleton.mp h]
      exact Sh.int _ _
/-! ### a turn of the growing -/
noncomputable def grBody : MS := sIf (tNo (tX (m1 fAny (rX (fzL (lLc (iLo 2) (bName 8) tTrue (mCall m_cross (lCons (mVar 3) (lCons (mVar 8) lNil))) [8])))))) (sSeq (sDrop (mApp 2 (mVar 3)))
  (sSeq (sAsg (m1 fTuple (rX (fzL (l1 fSortT (rVar 2))))) (bName 4))
  (sSeq (sAsg (mIf (tX (mOp (fEq false) (m1 fLen (rVar 2)) (mOp fSub (mOp fMul (mC (.int 2)) (mVar 1)) (mC (.int 1))))) (mC .none) (mTup (lCons (mC (.str "many")) (lCons (m1 fLen (rVar 2)) lNil)))) (bName 5))
  (sIf (tOrr (tX (mOp fGt (m1 fLen (rVar 2)) (mOp fSub (mOp fMul (mC (.int 2)) (mVar 1)) (mC (.int 1))))) (tX (mOp (fEq true) (mCall m_p_judge_lots (lCons (mVar 1) (lCons (mVar 4) lNil))) (mVar 5)))) (sRet (mC (.bool false))) sNext)))) sNext
abbrev stG (g : Gn) (n : Nat) (F : List (List Nat)) (c3 c4 c5 c6 c7 : Cell) : Ga := [.src g, .dat (.int (n : Int)), .lst (F.map eL), c3, c4, c5, c6, c7, .no]
theorem gr_test (g : Gn) (n : Nat) (F : List (List Nat)) (l : List Nat) (c4 c5 c6 c7 : Cell) (hF : F.length ≤ 1000) (hl : l.length ≤ 1000) :
    tNo (tX (m1 fAny (rX (fzL (lLc (iLo 2) (bName 8) tTrue (mCall m_cross (lCons (mVar 3) (lCons (mVar 8) lNil))) [8]))))) (stG g n F (.dat (eL l)) c4 c5 c6 c7) = some (!(F.any fun one => crossB l one), stG g n F (.dat (eL l)) c4 c5 c6 c7) := by
  have hc : compGo (fun Γ2 => Γ2[2]? = some (.lst (F.map eL))) (bName 8) tTrue (mCall m_cross (lCons (mVar 3) (lCons (mVar 8) lNil))) [8] (F.map eL) (stG g n F (.dat (eL l)) c4 c5 c6 c7) = some (F.map fun one => .bool (crossB l one), stG g n F (.dat (eL l)) c4 c5 c6 c7) :=
    comp_mapK (kp := fun Γ2 => Γ2[2]? = some (.lst (F.map eL))) (f := eL) (g := fun one => .bool (crossB l one)) rfl F fun one m => ⟨[.src g, .dat (.int (n : Int)), .lst (F.map eL), .dat (eL l), c4, c5, c6, c7, .dat (eL one)], [.src g, .dat (.int (n : Int)), .lst (F.map eL), .dat (eL l), c4, c5, c6, c7, .dat (eL one)], rfl, rfl, by simp [ev_law_cross l one hl, sSeq, sAsg, sAsgL, sRet, sDrop, sIf, sNext, mVar, mC, lNil, lCons, lLst, mTup, rX, rVar, look, fzL, m1, l1, mOp, mIx, mCall, tX, tAn, tOrr, tNo, tTrue, mIf, mAn, mOrr, mNo, mNeg, bName, bTup, bTupL, bCons, bNil, items, fLen, fTuple, fit_ok, isL, start0, runP, wpG, mSl, lSl, oX, oNo], rfl⟩
  have hi : iLo 2 (stG g n F (.dat (eL l)) c4 c5 c6 c7) = some (F.map eL, (fun Γ2 => Γ2[2]? = some (.lst (F.map eL))), stG g n F (.dat (eL l)) c4 c5 c6 c7) := rfl
  have hf : (F.map eL).length ≤ 100000 := by rw [List.length_map]; omega
  have hw : wpG (stG g n F (.dat (eL l)) c4 c5 c6 c7) [8] = stG g n F (.dat (eL l)) c4 c5 c6 c7 := rfl
  have hL : lLc (iLo 2) (bName 8) tTrue (mCall m_cross (lCons (mVar 3) (lCons (mVar 8) lNil))) [8] (stG g n F (.dat (eL l)) c4 c5 c6 c7) = some (F.map fun one => .bool (crossB l one), stG g n F (.dat (eL l)) c4 c5 c6 c7) := by
    unfold lLc
    rw [hi, Option.bind_some, fit_ok hf, Option.bind_some, hw]
    exact hc
  have ha := fAny_map F fun one => crossB l one
  simp only [tNo, tX, m1, rX, fzL, hL, Option.map_some, Option.bind_some, ha]
theorem gr_skip {g : Gn} {n : Nat} {F : List (List Nat)} {l : List Nat} {c4 c5 c6 c7 : Cell} (hF : F.length ≤ 1000) (hl : l.length ≤ 1000) (hx : (F.any fun one => crossB l one) = true) : grBody (stG g n F (.dat (eL l)) c4 c5 c6 c7) = some (.nx, stG g n F (.dat (eL l)) c4 c5 c6 c7) := by
  have := gr_test g n F l c4 c5 c6 c7 hF hl
  rw [hx] at this
  unfold grBody sIf
  rw [this]
  rfl
theorem gr_app (g : Gn) (n : Nat) (F : List (List Nat)) (l : List Nat) (c4 c5 c6 c7 : Cell) (hF : F.length ≤ 1000) : sDrop (mApp 2 (mVar 3)) (stG g n F (.dat (eL l)) c4 c5 c6 c7) = some (.nx, stG g n (F ++ [l]) (.dat (eL l)) c4 c5 c6 c7) := by
  have hf : F.length ≤ 100000 := by omega
  simp [mApp, hf, sSeq, sAsg, sAsgL, sRet, sDrop, sIf, sNext, mVar, mC, lNil, lCons, lLst, mTup, rX, rVar, look, fzL, m1, l1, mOp, mIx, mCall, tX, tAn, tOrr, tNo, tTrue, mIf, mAn, mOrr, mNo, mNeg, bName, bTup, bTupL, bCons, bNil, items, fLen, fTuple, fit_ok, isL, start0, runP, wpG, mSl, lSl, oX, oNo]
theorem gr_some (g : Gn) (n i : Nat) (hi : i < 9) (F : List (List Nat)) (c3 c4 c5 c6 c7 : Cell) (hn : ∀ l ∈ F, l ≠ []) : (m1 fTuple (rX (fzL (l1 fSortT (rVar 2))))) (stG g n F c3 c4 c5 c6 c7) = some (.tuple ((srt F).map eL), stG g n F c3 c4 c5 c6 c7) := by
  simp [fSortT_eL hn, -List.map_map, sSeq, sAsg, sAsgL, sRet, sDrop, sIf, sNext, mVar, mC, lNil, lCons, lLst, mTup, rX, rVar, look, fzL, m1, l1, mOp, mIx, mCall, tX, tAn, tOrr, tNo, tTrue, mIf, mAn, mOrr, mNo, mNeg, bName, bTup, bTupL, bCons, bNil, items, fLen, fTuple, fit_ok, isL, start0, runP, wpG, mSl, lSl, oX, oNo]
theorem gr_num (n : Nat) (Γ : Ga) (h : Γ[1]? = some (.dat (.int (n : Int)))) : (mOp fSub (mOp fMul (mC (.int 2)) (mVar 1)) (mC (.int 1))) Γ = some (.int (2 * n - 1), Γ) := by
  have hm : fMul (.int 2) (.int (n : Int)) = some (.int (2 * n)) := rfl
  have hs : fSub (.int (2 * (n : Int))) (.int 1) = some (.int (2 * n - 1)) := rfl
  simp [h, hm, hs, sSeq, sAsg, sAsgL, sRet, sDrop, sIf, sNext, mVar, mC, lNil, lCons, lLst, mTup, rX, rVar, look, fzL, m1, l1, mOp, mIx, mCall, tX, tAn, tOrr, tNo, tTrue, mIf, mAn, mOrr, mNo, mNeg, bName, bTup, bTupL, bCons, bNil, items, fLen, fTuple, fit_ok, isL, start0, runP, wpG, mSl, lSl, oX, oNo]
theorem gr_len (F : List (List Nat)) (Γ : Ga) (h : Γ[2]? = some (.lst (F.map eL))) : (m1 fLen (rVar 2)) Γ = some (.int (F.length : Nat), Γ) := by
  simp [h, sSeq, sAsg, sAsgL, sRet, sDrop, sIf, sNext, mVar, mC, lNil, lCons, lLst, mTup, rX, rVar, look, fzL, m1, l1, mOp, mIx, mCall, tX, tAn, tOrr, tNo, tTrue, mIf, mAn, mOrr, mNo, mNeg, bName, bTup, bTupL, bCons, bNil, items, fLen, fTuple, fit_ok, isL, start0, runP, wpG, mSl, lSl, oX, oNo]
theorem op_ints {f : PyData → PyData → Option PyData} {mA mB : MX} {Γ : Ga} {a b : Int} {d : PyData} (h1 : mA Γ = some (.int a, Γ)) (h2 : mB Γ = some (.int b, Γ)) (h3 : f (.int a) (.int b) = some d) : mOp f mA mB Γ = some (d, Γ) := by
  simp only [mOp, h1, h2, h3, Option.bind_some]
theorem tX_of {m : MX} {Γ Γ' : Ga} {b : Bool} (h : m Γ = some (.bool b, Γ')) : tX m Γ = some (b, Γ') := by
  simp only [tX, h, Option.bind_some]
theorem mIf_of {t : MT} {x y : MX} {Γ Γ' : Ga} {b : Bool} (h : t Γ = some (b, Γ')) : mIf t x y Γ = if b = true then x Γ' else y Γ' := by
  simp only [mIf, h, Option.bind_some]
theorem sIf_of {t : MT} {x y : MS} {Γ Γ' : Ga} {b : Bool} (h : t Γ = some (b, Γ')) : sIf t x y Γ = if b = true then x Γ' else y Γ' := by
  simp only [sIf, h, Option.bind_some]
theorem sSeq_of {x y : MS} {Γ Γ' : Ga} (h : x Γ = some (.nx, Γ')) : sSeq x y Γ = y Γ' := by
  simp only [sSeq, h, Option.bind_some]
theorem sAsg_of {m : MX} {b : MB} {Γ Γ1 Γ2 : Ga} {d : PyData} (h : m Γ = some (d, Γ1)) (hb : b d Γ1 = some Γ2) : sAsg m b Γ = some (.nx, Γ2) := by
  simp only [sAsg, h, hb, Option.bind_some]
theorem mTup_two {x : Str} {m : MX} {Γ : Ga} {d : PyData} (h : m Γ = some (d, Γ)) : mTup (lCons (mC (.str x)) (lCons m lNil)) Γ = some (.tuple [.str x, d], Γ) := by
  simp only [mTup, lCons, mC, lNil, h, Option.bind_some]
  rfl
theorem gr_due (g : Gn) (n : Nat) (F : List (List Nat)) (c3 c4 c5 c6 c7 : Cell) : (mIf (tX (mOp (fEq false) (m1 fLen (rVar 2)) (mOp fSub (mOp fMul (mC (.int 2)) (mVar 1)) (mC (.int 1))))) (mC .none) (mTup (lCons (mC (.str "many")) (lCons (m1 fLen (rVar 2)) lNil)))) (stG g n F c3 c4 c5 c6 c7) = some (dueD n F.length, stG g n F c3 c4 c5 c6 c7) := by
  have h1 := gr_num n (stG g n F c3 c4 c5 c6 c7) rfl
  have h2 := gr_len F (stG g n F c3 c4 c5 c6 c7) rfl
  have h3 := tX_of (op_ints h2 h1 (fEq_int false (F.length : Nat) (2 * n - 1)))
  rw [mIf_of h3, mTup_two h2]
  unfold dueD
  by_cases c : ((F.length : Nat) : Int) = 2 * n - 1
  · simp only [c, decide_true, Bool.false_eq_true, if_false, if_true]
    rfl
  · simp only [c, decide_false, Bool.false_eq_true, if_false]
    rfl
theorem gr_gt (g : Gn) (n : Nat) (F : List (List Nat)) (c3 c4 c5 c6 c7 : Cell) (h : F.length + 1 ≤ 2 * n) : tX (mOp fGt (m1 fLen (rVar 2)) (mOp fSub (mOp fMul (mC (.int 2)) (mVar 1)) (mC (.int 1)))) (stG g n F c3 c4 c5 c6 c7) = some (false, stG g n F c3 c4 c5 c6 c7) := by
  have h1 := gr_num n (stG g n F c3 c4 c5 c6 c7) rfl
  have h2 := gr_len F (stG g n F c3 c4 c5 c6 c7) rfl
  have hg : fGt (.int (F.length : Nat)) (.int (2 * n - 1)) = some (.bool false) := by
    have : ¬ (2 * (n : Int) - 1 < (F.length : Nat)) := by omega
    simp [fGt, fInt, this]
  exact tX_of (op_ints h2 h1 hg)
/-- what stands behind a turn -/
theorem gr_put {g : Gn} {n : Nat} {F : List (List Nat)} {l : List Nat} {c4 c5 c6 c7 : Cell} (hF : F.length ≤ 1000) (hl : l.length ≤ 1000) (hx : (F.any fun one => crossB l one) = false) (hV : Fine n (srt (F ++ [l]))) (nd : (F ++ [l]).Nodup) (ho : ∀ a ∈ F ++ [l], ∀ b ∈ F ++ [l], crossB a b = false) (hm : (F ++ [l]).length + 1 ≤ 2 * n) :
    ∃ d4 d5, grBody (stG g n F (.dat (eL l)) c4 c5 c6 c7) = some (.nx, stG g n (F ++ [l]) (.dat (eL l)) d4 d5 c6 c7) := by
  have ht := gr_test g n F l c4 c5 c6 c7 hF hl
  rw [hx] at ht
  have hn : ∀ x ∈ F ++ [l], x ≠ [] := fun x m => (hV.lot x (mem_srt.mpr m)).ne
  have e1 := gr_app g n F l c4 c5 c6 c7 hF
  have e2 := gr_some g n 4 (by decide) (F ++ [l]) (.dat (eL l)) c4 c5 c6 c7 hn
  have e3 := gr_due g n (F ++ [l]) (.dat (eL l)) (.dat (.tuple ((srt (F ++ [l])).map eL))) c5 c6 c7
  have e4 := gr_gt g n (F ++ [l]) (.dat (eL l)) (.dat (.tuple ((srt (F ++ [l])).map eL))) (.dat (dueD n (F ++ [l]).length)) c6 c7 hm
  have hj : m_p_judge_lots [.int n, .tuple ((srt (F ++ [l])).map eL)] = some (dueD n (F ++ [l]).length) := by
    rw [ev_judge_lots hV, jd_ok (asc_srt nd) (fun a ha b hb => ho a (mem_srt.mp ha) b (mem_srt.mp hb)), (srt_perm _).length_eq]
  have hq := fEq_same (neg := true) (sh_due n (F ++ [l]).length) (by decide)
  have e5 : tX (mOp (fEq true) (mCall m_p_judge_lots (lCons (mVar 1) (lCons (mVar 4) lNil))) (mVar 5)) (stG g n (F ++ [l]) (.dat (eL l)) (.dat (.tuple ((srt (F ++ [l])).map eL))) (.dat (dueD n (F ++ [l]).length)) c6 c7) = some (false, stG g n (F ++ [l]) (.dat (eL l)) (.dat (.tuple ((srt (F ++ [l])).map eL))) (.dat (dueD n (F ++ [l]).length)) c6 c7) := by
    refine tX_of (Γ' := _) ?_
    have hc : mCall m_p_judge_lots (lCons (mVar 1) (lCons (mVar 4) lNil)) (stG g n (F ++ [l]) (.dat (eL l)) (.dat (.tuple ((srt (F ++ [l])).map eL))) (.dat (dueD n (F ++ [l]).length)) c6 c7) = some (dueD n (F ++ [l]).length, stG g n (F ++ [l]) (.dat (eL l)) (.dat (.tuple ((srt (F ++ [l])).map eL))) (.dat (dueD n (F ++ [l]).length)) c6 c7) := by
      simp only [mCall, lCons, lNil, mVar, List.getElem?_cons_succ, List.getElem?_cons_zero, Option.bind_some, hj]
    have hv : mVar 5 (stG g n (F ++ [l]) (.dat (eL l)) (.dat (.tuple ((srt (F ++ [l])).map eL))) (.dat (dueD n (F ++ [l]).length)) c6 c7) = some (dueD n (F ++ [l]).length, stG g n (F ++ [l]) (.dat (eL l)) (.dat (.tuple ((srt (F ++ [l])).map eL))) (.dat (dueD n (F ++ [l]).length)) c6 c7) := rfl
    simp only [mOp, hc, hv, Option.bind_some, hq]
    rfl
  refine ⟨.dat (.tuple ((srt (F ++ [l])).map eL)), .dat (dueD n (F ++ [l]).length), ?_⟩
  unfold grBody
  rw [sIf_of ht]
  simp only [Bool.not_false, if_true]
  rw [sSeq_of e1, sSeq_of (sAsg_of e2 (Γ2 := stG g n (F ++ [l]) (.dat (eL l)) (.dat (.tuple ((srt (F ++ [l])).map eL))) c5 c6 c7) rfl), sSeq_of (sAsg_of e3 (Γ2 := stG g n (F ++ [l]) (.dat (eL l)) (.dat (.tuple ((srt (F ++ [l])).map eL))) (.dat (dueD n (F ++ [l]).length)) c6 c7) rfl)]
  have e6 : tOrr (tX (mOp fGt (m1 fLen (rVar 2)) (mOp fSub (mOp fMul (mC (.int 2)) (mVar 1)) (mC (.int 1))))) (tX (mOp (fEq true) (mCall m_p_judge_lots (lCons (mVar 1) (lCons (mVar 4) lNil))) (mVar 5))) (stG g n (F ++ [l]) (.dat (eL l)) (.dat (.tuple ((srt (F ++ [l])).map eL))) (.dat (dueD n (F ++ [l]).length)) c6 c7) = some (false, stG g n (F ++ [l]) (.dat (eL l)) (.dat (.tuple ((srt (F ++ [l])).map eL))) (.dat (dueD n (F ++ [l]).length)) c6 c7) := by
    unfold tOrr
    rw [e4, Option.bind_some]
    exact e5
  rw [sIf_of e6]
  rfl
/-- the growing -/
theorem gr_go {n : Nat} {Ff : List (List Nat)} (hn : n ≤ 400) (hFf : Ff.length + 1 = 2 * n) (hL : ∀ l ∈ Ff, IsLot n l) (hN : Ff.Nodup) (hO : ∀ a ∈ Ff, ∀ b ∈ Ff, crossB a b = false) (R : List (List Nat)) : ∀ (F : List (List Nat)) (g : Gn) (c3 c4 c5 c6 c7 : Cell), (∀ l ∈ R, IsLot n l) → R.foldl gstep F = Ff →
    ∃ d3 d4 d5, forGo (bName 3) grBody (R.map eL) (stG g n F c3 c4 c5 c6 c7) = some (.nx, stG g n Ff d3 d4 d5 c6 c7) := by
  induction R with
  | nil =>
    intro F g c3 c4 c5 c6 c7 _ h
    have h : F = Ff := h
    subst h
    exact ⟨c3, c4, c5, rfl⟩
  | cons l R ih =>
    intro F g c3 c4 c5 c6 c7 hR h
    rw [List.foldl_cons] at h
    obtain ⟨t, et⟩ := grown_prefix R (gstep F l)
    have hpre : ∃ t, Ff = gstep F l ++ t := ⟨t, by rw [← h, et]⟩
    have ll := hR l (List.mem_cons_self ..)
    have llen : l.length ≤ 1000 := by
      have := nodup_len_le (b := List.range n) ll.asc.nodup fun x hx => List.mem_range.mpr (ll.lt x hx)
      rw [List.length_range] at this
      omega
    have hb : bName 3 (eL l) (stG g n F c3 c4 c5 c6 c7) = some (stG g n F (.dat (eL l)) c4 c5 c6 c7) := rfl
    have step : ∃ d4 d5, grBody (stG g n F (.dat (eL l)) c4 c5 c6 c7) = some (.nx, stG g n (gstep F l) (.dat (eL l)) d4 d5 c6 c7) := by
      obtain ⟨t, e⟩ := hpre
      unfold gstep at e ⊢
      cases hx : F.any fun one => crossB l one with
      | true =>
        rw [hx] at e
        simp only [if_true] at e ⊢
        have hF : F.length ≤ 1000 := by
          have := congrArg List.length e
          rw [List.length_append] at this
          omega
        exact ⟨c4, c5, gr_skip hF llen hx⟩
      | false =>
        rw [hx] at e
        simp only [Bool.false_eq_true, if_false] at e ⊢
        have hlen := congrArg List.length e
        rw [List.length_append] at hlen
        have hF : F.length ≤ 1000 := by
          rw [List.length_append] at hlen
          omega
        have mem : ∀ x ∈ F ++ [l], x ∈ Ff := fun x m => by rw [e]; exact List.mem_append_left _ m
        have nd : (F ++ [l]).Nodup := by
          rw [e] at hN
          exact (List.nodup_append.mp hN).1
        have hV : Fine n (srt (F ++ [l])) := ⟨fun x m => hL x (mem x (mem_srt.mp m)), by rw [(srt_perm _).length_eq]; omega, by omega⟩
        exact gr_put hF llen hx hV nd (fun a ha b hb => hO a (mem a ha) b (mem b hb)) (by omega)
    obtain ⟨d4, d5, e1⟩ := step
    obtain ⟨f3, f4, f5, e2⟩ := ih (gstep F l) g (.dat (eL l)) d4 d5 c6 c7 (fun x m => hR x (List.mem_cons_of_mem _ m)) h
    refine ⟨f3, f4, f5, ?_⟩
    rw [List.map_cons, forGo, hb, Option.bind_some, e1]
    exact e2
end Tst


namespace Tst
open PySem PySem.Spec PyProof.Rows L2 MM LM
variable [Tb]
theorem perm_map_inv {α β : Type} {f : α → β} : ∀ {E F : List β}, E.Perm F → ∀ T : List α, F = T.map f → ∃ ks : List α, ks.map f = E ∧ ks.Perm T := by
  intro E F hh
  induction hh with
  | nil => intro T e; exact ⟨[], rfl, by rw [List.map_eq_nil_iff.mp e.symm]⟩
  | cons y _ ih =>
    intro T e
    cases T with
    | nil => cases e
    | cons t T =>
      rw [List.map_cons] at e
      obtain ⟨e1, e2⟩ := List.cons.inj e
      obtain ⟨ks, k1, k2⟩ := ih T e2
      exact ⟨t :: ks, by rw [List.map_cons, k1, e1], k2.cons _⟩
  | swap y z l =>
    intro T e
    match T, e with
    | t :: u :: T, e =>
      rw [List.map_cons, List.map_cons] at e
      obtain ⟨e1, e2⟩ := List.cons.inj e
      obtain ⟨e2, e3⟩ := List.cons.inj e2
      exact ⟨u :: t :: T, by rw [List.map_cons, List.map_cons, e1, e2, e3], List.Perm.swap _ _ _⟩
  | trans _ _ ih1 ih2 =>
    intro T e
    obtain ⟨ks, k1, k2⟩ := ih2 T e
    obtain ⟨js, j1, j2⟩ := ih1 ks k1.symm
    exact ⟨js, j1, j2.trans k2⟩
theorem sh_eP : ∀ p : Pl, Sh (leaves p).length (eP p)
  | .leaf s => Sh.int _ _
  | .node a b => by
    have ha := sh_eP a
    have hb := sh_eP b
    have la := leaves_pos a
    have lb := leaves_pos b
    have : (leaves (Pl.node a b)).length = ((leaves a).length + (leaves b).length - 1) + 1 := by
      simp only [leaves, List.length_append]
      omega
    rw [this]
    refine Sh.tup fun d m => ?_
    rcases List.mem_cons.mp m with rfl | m
    · exact ha.mono (by omega)
    · rw [List.mem_singleton.mp m]
      exact hb.mono (by omega)
theorem sh_lots (V : List (List Nat)) : Sh 2 (.tuple (V.map eL)) := Sh.tup fun d m => by
  obtain ⟨l, _, rfl⟩ := List.mem_map.mp m
  exact sh_eL l
theorem mAn_true {mA mB : MX} {Γ : Ga} (h : mA Γ = some (.bool true, Γ)) (k : mB Γ = some (.bool true, Γ)) : mAn mA mB Γ = some (.bool true, Γ) := by
  simp only [mAn, tX_of h, tX_of k, Option.bind_some, if_true]
theorem op_of {f : PyData → PyData → Option PyData} {mA mB : MX} {Γ : Ga} {a b d : PyData} (h1 : mA Γ = some (a, Γ)) (h2 : mB Γ = some (b, Γ)) (h3 : f a b = some d) : mOp f mA mB Γ = some (d, Γ) := by
  simp only [mOp, h1, h2, h3, Option.bind_some]
theorem call_one {mf : List PyData → Option PyData} {m : MX} {Γ : Ga} {a d : PyData} (h : m Γ = some (a, Γ)) (hf : mf [a] = some d) : mCall mf (lCons m lNil) Γ = some (d, Γ) := by
  simp only [mCall, lCons, lNil, h, hf, Option.bind_some]
theorem call_two {mf : List PyData → Option PyData} {m n : MX} {Γ : Ga} {a b d : PyData} (h : m Γ = some (a, Γ)) (k : n Γ = some (b, Γ)) (hf : mf [a, b] = some d) : mCall mf (lCons m (lCons n lNil)) Γ = some (d, Γ) := by
  simp only [mCall, lCons, lNil, h, k, hf, Option.bind_some]
theorem callS_one {i : Nat} {mf : Gn → List PyData → Option (PyData × Gn)} {m : MX} {Γ : Ga} {g g' : Gn} {a d : PyData} (hg : Γ[i]? = some (.src g)) (h : m Γ = some (a, Γ)) (hf : mf g [a] = some (d, g')) : mCallS i mf (lCons m lNil) Γ = some (d, Γ.set i (.src g')) := by
  simp only [mCallS, lCons, lNil, h, hg, hf, Option.bind_some]
theorem var_at {i : Nat} {Γ : Ga} {d : PyData} (h : Γ[i]? = some (.dat d)) : mVar i Γ = some (d, Γ) := by
  simp only [mVar, h]
theorem formed_again {p : Pl} (nd : (leaves p).Nodup) (hp : (leaves p).length ≤ 1000) : m_p_formed [eP (formed p)] = some (eP (formed p)) := by
  have h1 := ev_lots_of (formed p) (by rw [(formed_leaves p).length_eq]; exact hp)
  rw [lots_formed] at h1
  have h2 := ev_plan_by_lots nd hp (L := lots p) (srt_perm _)
  unfold m_p_formed b_p_formed
  have hs : start0 1 [eP (formed p)] = [.dat (eP (formed p))] := rfl
  simp only [runP, hs, List.length_cons, List.length_nil, if_true, sRet, call_one (call_one (var_at (i := 0) (Γ := [.dat (eP (formed p))]) rfl) h1) h2, Option.bind_some]
noncomputable def grRest : MX := mAn (mOp (fEq false) (m1 fLen (rX (mVar 6))) (mOp fSub (mOp fMul (mC (.int 2)) (mVar 1)) (mC (.int 1)))) (mAn (mOp (fEq false) (mCall m_p_lots_of (lCons (mVar 7) lNil)) (mVar 6)) (mAn (mOp (fEq false) (mCall m_p_formed (lCons (mVar 7) lNil)) (mVar 7)) (mOp (fEq false) (mVar 7) (mCall m_plan_by (lCons (mVar 6) lNil)))))
theorem gr_rest {Γ : Ga} {n : Nat} {p : Pl} (nd : (leaves p).Nodup) (hp : (leaves p).length = n) (hn : n ≤ 50) (h1 : Γ[1]? = some (.dat (.int (n : Int)))) (h6 : Γ[6]? = some (.dat (.tuple ((lots p).map eL)))) (h7 : Γ[7]? = some (.dat (eP (formed p)))) : grRest Γ = some (.bool true, Γ) := by
  have hpl : (leaves p).length ≤ 1000 := by omega
  have hfl : (leaves (formed p)).length ≤ 50 := by rw [(formed_leaves p).length_eq]; omega
  have v6 := var_at h6
  have v7 := var_at h7
  have hl := lots_len p
  have nlen : m1 fLen (rX (mVar 6)) Γ = some (.int ((lots p).length : Nat), Γ) := by
    simp only [m1, rX, v6, Option.bind_some, fLen, items, List.length_map]
  have q1 : fEq false (.int ((lots p).length : Nat)) (.int (2 * n - 1)) = some (.bool true) := by
    rw [fEq_int, decide_eq_true (by omega)]
    rfl
  have c1 := ev_lots_of (formed p) (by omega)
  rw [lots_formed] at c1
  have c2 := formed_again nd hpl
  have c3 := ev_plan_by nd hpl (L := lots p) (srt_perm _)
  have q2 := fEq_same (neg := false) (sh_lots (lots p)) (by decide)
  have q3 := fEq_same (neg := false) (sh_eP (formed p)) (by omega)
  exact mAn_true (op_ints nlen (gr_num n Γ h1) q1) (mAn_true (op_of (call_one v7 c1) v6 q2) (mAn_true (op_of (call_one v7 c2) v7 q3) (op_of v7 (call_one v6 c3) q3)))
theorem run_of {N n : Nat} {m : MS} {g g' : Gn} {ds : List PyData} {d : PyData} {Γ Γ' : Ga} (hl : ds.length = n) (hs : startS N g ds = Γ) (h : m Γ = some (.rt d, Γ')) (hg : Γ'[0]? = some (.src g')) : runS N n m g ds = some (d, g') := by
  simp only [runS, hl, if_true, hs, h, Option.bind_some, hg]
theorem ev_grown_right (g : Gn) (n : Nat) (h1 : 1 ≤ n) (hn : n ≤ 10) : ∃ g', m_grown_right g [.int n] = some (.bool true, g') := by
  have hlen : (((allL n).drop 1).map eL).length ≤ 50000 := by
    rw [List.length_map, List.length_drop, allL_len]
    have : 2 ^ n ≤ 2 ^ 10 := Nat.pow_le_pow_right (by decide) hn
    have : 2 ^ 10 = 1024 := by decide
    omega
  obtain ⟨es, g1, ea, pa⟩ := ev_any_order g _ hlen
  obtain ⟨order, rfl, po⟩ := perm_map_inv pa _ rfl
  obtain ⟨p, nd, pr, pf, lf⟩ := grown_tree h1 po
  have full := grown_full po
  have hL : ∀ l ∈ order, IsLot n l := fun l m => mem_tail.mp (po.mem_iff.mp m)
  obtain ⟨d3, d4, d5, eg⟩ := gr_go (n := n) (Ff := order.foldl gstep []) (by omega) lf full.lot full.nd (fun a ha b hb => (cross_ok (full.lot a ha).asc.nodup (full.lot b hb).asc.nodup).mpr (full.ok a ha b hb)) order [] g1 .no .no .no .no .no hL rfl
  generalize order.foldl gstep [] = Ff at *
  have hV : srt Ff = lots p := srt_congr pf
  have hpl : (leaves p).length = n := by rw [pr.length_eq, List.length_range]
  have hne : ∀ l ∈ Ff, l ≠ [] := fun l m => (full.lot l m).ne
  have e2 := gr_some g1 n 6 (by decide) Ff d3 d4 d5 .no .no hne
  rw [hV] at e2
  let Γ6 : Ga := [.src g1, .dat (.int (n : Int)), .lst (Ff.map eL), d3, d4, d5, .dat (.tuple ((lots p).map eL)), .no, .no]
  let Γ7 : Ga := [.src g1, .dat (.int (n : Int)), .lst (Ff.map eL), d3, d4, d5, .dat (.tuple ((lots p).map eL)), .dat (eP (formed p)), .no]
  have e3 : mCall m_p_plan_of (lCons (mVar 1) (lCons (mVar 6) lNil)) Γ6 = some (eP (formed p), Γ6) := call_two (var_at rfl) (var_at rfl) (ev_plan_of n nd (by omega) (srt_perm _))
  have e4 : grRest Γ7 = some (.bool true, Γ7) := gr_rest nd hpl (by omega) rfl rfl rfl
  let Γ2 : Ga := [.src g, .dat (.int (n : Int)), .lst [], .no, .no, .no, .no, .no, .no]
  have ei : iLs (mCallS 0 m_any_order (lCons (mCall m_all_lots (lCons (mVar 1) lNil)) lNil)) Γ2 = some (order.map eL, any_, stG g1 n [] .no .no .no .no .no) := by
    have c := callS_one (i := 0) (Γ := Γ2) (g := g) (g' := g1) rfl (call_one (var_at (i := 1) rfl) (ev_all_lots n (by omega))) ea
    simp only [iLs, c, Option.bind_some]
    rfl
  have hbody : b_grown_right = sSeq (sAsgL 2 (lLst lNil)) (sSeq (sFor (iLs (mCallS 0 m_any_order (lCons (mCall m_all_lots (lCons (mVar 1) lNil)) lNil))) (bName 3) grBody) (sSeq (sAsg (m1 fTuple (rX (fzL (l1 fSortT (rVar 2))))) (bName 6)) (sSeq (sAsg (mCall m_p_plan_of (lCons (mVar 1) (lCons (mVar 6) lNil))) (bName 7)) (sRet grRest)))) := rfl
  refine ⟨g1, ?_⟩
  have h0 : sAsgL 2 (lLst lNil) [.src g, .dat (.int (n : Int)), .no, .no, .no, .no, .no, .no, .no] = some (.nx, Γ2) := rfl
  have hfor : sFor (iLs (mCallS 0 m_any_order (lCons (mCall m_all_lots (lCons (mVar 1) lNil)) lNil))) (bName 3) grBody Γ2 = some (.nx, stG g1 n Ff d3 d4 d5 .no .no) := by
    simp only [sFor, ei, Option.bind_some]
    exact eg
  have hret : sRet grRest Γ7 = some (.rt (.bool true), Γ7) := by simp only [sRet, e4, Option.bind_some]
  have hall : b_grown_right [.src g, .dat (.int (n : Int)), .no, .no, .no, .no, .no, .no, .no] = some (.rt (.bool true), Γ7) := by
    rw [hbody, sSeq_of h0, sSeq_of hfor, sSeq_of (sAsg_of e2 (Γ2 := Γ6) rfl), sSeq_of (sAsg_of e3 (Γ2 := Γ7) rfl)]
    exact hret
  exact run_of rfl rfl hall rfl
end Tst


namespace Tst
open PySem PySem.Spec PyProof.Rows L2 MM LM
variable [Tb]
theorem fEq_ne {k l : Nat} {d e : PyData} (h : Sh k d) (he : Sh l e) (hk : k ≤ 64) (hl : l ≤ 64) (c : ¬ d = e) : fEq false d e = some (.bool false) := by
  rw [fEq_sh h he hk hl]
  simp [c]
theorem fzL_of {l : ML} {Γ Γ' : Ga} {ds : List PyData} (h : l Γ = some (ds, Γ')) : fzL l Γ = some (.list ds, Γ') := by
  simp only [fzL, h, Option.map_some]
theorem rX_of {m : MX} {Γ : Ga} {d : PyData} (h : m Γ = some (d, Γ)) : rX m Γ = some ((fun _ => some d), Γ) := by
  simp only [rX, h, Option.bind_some]
theorem m1_of {f : PyData → Option PyData} {m : MX} {Γ Γ' : Ga} {d e : PyData} (h : m Γ = some (d, Γ')) (hf : f d = some e) : m1 f (rX m) Γ = some (e, Γ') := by
  simp only [m1, rX, h, hf, Option.bind_some]
theorem l1_of {f : PyData → Option (List PyData)} {m : MX} {Γ Γ' : Ga} {d : PyData} {e : List PyData} (h : m Γ = some (d, Γ')) (hf : f d = some e) : l1 f (rX m) Γ = some (e, Γ') := by
  simp only [l1, rX, h, hf, Option.bind_some]
theorem ix_of {m : MX} {i : Int} {Γ : Ga} {d e : PyData} (h : m Γ = some (d, Γ)) (hf : fIx d (.int i) = some e) : mIx (rX m) (mC (.int i)) Γ = some (e, Γ) := by
  simp only [mIx, rX, mC, h, hf, Option.bind_some]
theorem lc_of {mi : MI} {b : MB} {t : MT} {m : MX} {vs : List Nat} {Γ Γ' : Ga} {J es : List PyData} (h1 : mi Γ = some (J, any_, Γ)) (h2 : J.length ≤ 100000) (h3 : wpG Γ vs = Γ) (h4 : compGo any_ b t m vs J Γ = some (es, Γ')) : lLc mi b t m vs Γ = some (es, Γ') := by
  unfold lLc
  rw [h1, Option.bind_some, fit_ok h2, Option.bind_some, h3, h4]
/-! ### the states -/
abbrev stT (g : Gn) (n : Nat) (c2 c3 c4 c5 c6 c7 : Cell) : Ga := [.src g, .dat (.int (n : Int)), c2, c3, c4, c5, c6, c7, .no, .no, .no]
theorem if62 {α : Type} {n : Nat} (h : n ≤ 1000) (a b : α) : (if (-(2 ^ 62) ≤ (0 : Int) ∧ (0 : Int) < 2 ^ 62) ∧ (-(2 ^ 62) ≤ (n : Int) ∧ (n : Int) < 2 ^ 62) ∧ ((n : Int) - 0).toNat ≤ lim then a else b) = a :=
  if_pos ⟨in62 0 (by omega) (by omega), in62 n (by omega) (by omega), by unfold lim; omega⟩
theorem rg_at {n : Nat} {Γ : Ga} (h : Γ[1]? = some (.dat (.int (n : Int)))) (hn : n ≤ 1000) : fzL (lRg (rg1 (mVar 1))) Γ = some (.list (intsD 0 n), Γ) := by
  refine fzL_of ?_
  have h1 : rg1 (mVar 1) Γ = some (0, (n : Int), Γ) := by simp only [rg1, var_at h, Option.bind_some]
  unfold lRg
  rw [h1, Option.bind_some]
  dsimp only
  rw [if62 hn]
  rw [show ((n : Int) - 0).toNat = n by omega]
/-- one plan, the other plan -/
theorem two_A (g : Gn) (n : Nat) (h1 : 1 ≤ n) (hn : n ≤ 50) (Γ : Ga) (hg : Γ[0]? = some (.src g)) (h : Γ[1]? = some (.dat (.int (n : Int)))) : ∃ p g', mCallS 0 m_draw_plan (lCons (fzL (lRg (rg1 (mVar 1)))) lNil) Γ = some (eP p, Γ.set 0 (.src g')) ∧ (leaves p).Perm (List.range n) := by
  obtain ⟨p, g', e, hp⟩ := ev_draw_plan g n h1 (by omega)
  exact ⟨p, g', callS_one hg (rg_at h (by omega)) e, hp⟩
theorem two_B (g : Gn) (n : Nat) (h1 : 1 ≤ n) (hn : n ≤ 50) (p : Pl) (hp : (leaves p).Perm (List.range n)) (c3 c4 c5 c6 c7 : Cell) : ∃ q g',
    mIf (tX (mOp (fEq false) (mCallS 0 m_pick (lCons (mC (.int 2)) lNil)) (mC (.int 0)))) (mCallS 0 m_draw_plan (lCons (fzL (lRg (rg1 (mVar 1)))) lNil)) (mCallS 0 (m_turned 50) (lCons (mVar 2) lNil)) (stT g n (.dat (eP p)) c3 c4 c5 c6 c7) = some (eP q, stT g' n (.dat (eP p)) c3 c4 c5 c6 c7) ∧ (leaves q).Perm (List.range n) := by
  obtain ⟨r, g1, hr, e1⟩ := pick_nat g (n := 2) (by decide) (by decide)
  have ep := pick_two (i := 0) (Γ := stT g n (.dat (eP p)) c3 c4 c5 c6 c7) ((2 : Nat) : Int) rfl e1
  have ep : mCallS 0 m_pick (lCons (mC (.int 2)) lNil) (stT g n (.dat (eP p)) c3 c4 c5 c6 c7) = some (.int r, stT g1 n (.dat (eP p)) c3 c4 c5 c6 c7) := ep
  have et : tX (mOp (fEq false) (mCallS 0 m_pick (lCons (mC (.int 2)) lNil)) (mC (.int 0))) (stT g n (.dat (eP p)) c3 c4 c5 c6 c7) = some (decide ((r : Int) = 0), stT g1 n (.dat (eP p)) c3 c4 c5 c6 c7) := by
    refine tX_of ?_
    simp only [mOp, ep, mC, Option.bind_some, fEq_int]
    rfl
  rw [mIf_of et]
  have hl : (leaves p).length = n := by rw [hp.length_eq, List.length_range]
  by_cases c : (r : Int) = 0
  · rw [decide_eq_true c, if_pos rfl]
    obtain ⟨q, g2, e2, hq⟩ := two_A g1 n h1 hn (stT g1 n (.dat (eP p)) c3 c4 c5 c6 c7) rfl rfl
    exact ⟨q, g2, e2, hq⟩
  · rw [decide_eq_false c, if_neg (by decide)]
    obtain ⟨q, g2, e2, hq⟩ := ev_turned p 50 g1 (by omega)
    exact ⟨q, g2, callS_one rfl (var_at (i := 2) (Γ := stT g1 n (.dat (eP p)) c3 c4 c5 c6 c7) rfl) e2, hq.trans hp⟩
abbrev toldD (p q : Pl) : PyData := .list [.tuple ((lots p).map eL), .tuple ((lots q).map eL)]
theorem two_C (p q : Pl) (hp : (leaves p).length ≤ 1000) (hq : (leaves q).length ≤ 1000) (Γ : Ga) (h2 : Γ[2]? = some (.dat (eP p))) (h3 : Γ[3]? = some (.dat (eP q))) : fzL (lLst (lCons (mCall m_p_lots_of (lCons (mVar 2) lNil)) (lCons (mCall m_p_lots_of (lCons (mVar 3) lNil)) lNil))) Γ = some (toldD p q, Γ) := by
  have a := call_one (var_at h2) (ev_lots_of p hp)
  have b := call_one (var_at h3) (ev_lots_of q hq)
  refine fzL_of ?_
  simp only [lLst, lCons, lNil, a, b, Option.bind_some]
  rfl
theorem srt_post (p : Pl) : srt (post p) = lots p := srt_congr (post_perm p)
theorem sh_rows (p q : Pl) : Sh 3 (.list [.list ((lots p).map eL), .list ((lots q).map eL)]) := Sh.lst fun d m => by
  have key : ∀ V : List (List Nat), Sh 2 (.list (V.map eL)) := fun V => Sh.lst fun d m => by
    obtain ⟨l, _, rfl⟩ := List.mem_map.mp m
    exact sh_eL l
  rcases List.mem_cons.mp m with rfl | m
  · exact key _
  · rw [List.mem_singleton.mp m]
    exact key _
theorem two_D (g : Gn) (n : Nat) (p q : Pl) (hp : (leaves p).length ≤ 50) (hq : (leaves q).length ≤ 50) (c5 c6 c7 : Cell) :
    tX (mOp (fEq true) (fzL (lLc (iLs (mVar 4)) (bName 8) tTrue (fzL (l1 items (rX (mVar 8)))) [8])) (fzL (lLc (iTp (mTup (lCons (mVar 2) (lCons (mVar 3) lNil)))) (bName 9) tTrue (fzL (l1 fSortT (rX (mCall (m_plan_lots 50) (lCons (mVar 9) lNil))))) [9]))) (stT g n (.dat (eP p)) (.dat (eP q)) (.dat (toldD p q)) c5 c6 c7) = some (false, stT g n (.dat (eP p)) (.dat (eP q)) (.dat (toldD p q)) c5 c6 c7) := by
  have hle : ∀ r ∈ [p, q], (leaves r).length ≤ 50 := fun r m => by
    rcases List.mem_cons.mp m with rfl | m
    · exact hp
    · rw [List.mem_singleton.mp m]; exact hq
  have c1 : compGo any_ (bName 8) tTrue (fzL (l1 items (rX (mVar 8)))) [8] ([p, q].map fun r => .tuple ((lots r).map eL)) (stT g n (.dat (eP p)) (.dat (eP q)) (.dat (toldD p q)) c5 c6 c7) = some ([p, q].map fun r => .list ((lots r).map eL), stT g n (.dat (eP p)) (.dat (eP q)) (.dat (toldD p q)) c5 c6 c7) :=
    comp_map (f := fun r => .tuple ((lots r).map eL)) (g := fun r => .list ((lots r).map eL)) [p, q] fun r m => ⟨[.src g, .dat (.int (n : Int)), .dat (eP p), .dat (eP q), .dat (toldD p q), c5, c6, c7, .dat (.tuple ((lots r).map eL)), .no, .no], [.src g, .dat (.int (n : Int)), .dat (eP p), .dat (eP q), .dat (toldD p q), c5, c6, c7, .dat (.tuple ((lots r).map eL)), .no, .no], rfl, rfl, fzL_of (l1_of (var_at (i := 8) rfl) rfl), rfl⟩
  have c2 : compGo any_ (bName 9) tTrue (fzL (l1 fSortT (rX (mCall (m_plan_lots 50) (lCons (mVar 9) lNil))))) [9] ([p, q].map eP) (stT g n (.dat (eP p)) (.dat (eP q)) (.dat (toldD p q)) c5 c6 c7) = some ([p, q].map fun r => .list ((lots r).map eL), stT g n (.dat (eP p)) (.dat (eP q)) (.dat (toldD p q)) c5 c6 c7) :=
    comp_map (f := eP) (g := fun r => .list ((lots r).map eL)) [p, q] fun r m => ⟨[.src g, .dat (.int (n : Int)), .dat (eP p), .dat (eP q), .dat (toldD p q), c5, c6, c7, .no, .dat (eP r), .no], [.src g, .dat (.int (n : Int)), .dat (eP p), .dat (eP q), .dat (toldD p q), c5, c6, c7, .no, .dat (eP r), .no], rfl, rfl, by
      have hr := hle r m
      have e := ev_plan_lots r 50 hr (by omega)
      have hs : fSortT (.list ((post r).map eL)) = some ((lots r).map eL) := by
        rw [← srt_post r]
        exact fSortT_eL fun l ml => by
          obtain ⟨x, _, rfl⟩ := List.mem_map.mp ((post_perm r).mem_iff.mp ml)
          exact lot_ne x
      exact fzL_of (l1_of (call_one (var_at (i := 9) rfl) e) hs), rfl⟩
  have i1 : iLs (mVar 4) (stT g n (.dat (eP p)) (.dat (eP q)) (.dat (toldD p q)) c5 c6 c7) = some ([p, q].map fun r => .tuple ((lots r).map eL), any_, stT g n (.dat (eP p)) (.dat (eP q)) (.dat (toldD p q)) c5 c6 c7) := rfl
  have i2 : iTp (mTup (lCons (mVar 2) (lCons (mVar 3) lNil))) (stT g n (.dat (eP p)) (.dat (eP q)) (.dat (toldD p q)) c5 c6 c7) = some ([p, q].map eP, any_, stT g n (.dat (eP p)) (.dat (eP q)) (.dat (toldD p q)) c5 c6 c7) := rfl
  have l1' := fzL_of (lc_of i1 (by simp) rfl c1)
  have l2' := fzL_of (lc_of i2 (by simp) rfl c2)
  exact tX_of (op_of l1' l2' (fEq_same (neg := true) (sh_rows p q) (by decide)))
theorem lots_iff {p q : Pl} (np : (leaves p).Nodup) (nq : (leaves q).Nodup) (hp : (leaves p).length ≤ 50) (hq : (leaves q).length ≤ 50) : (eP (formed p) = eP (formed q)) ↔ (PyData.tuple ((lots p).map eL) = .tuple ((lots q).map eL)) := by
  constructor
  · intro e
    have h1 := ev_lots_of (formed p) (by rw [(formed_leaves p).length_eq]; omega)
    have h2 := ev_lots_of (formed q) (by rw [(formed_leaves q).length_eq]; omega)
    rw [e, h2, lots_formed, lots_formed] at h1
    exact (Option.some.inj h1).symm
  · intro e
    have h1 := ev_plan_by_lots np (by omega) (L := lots p) (srt_perm _)
    have h2 := ev_plan_by_lots nq (by omega) (L := lots q) (srt_perm _)
    rw [e, h2] at h1
    exact (Option.some.inj h1).symm
theorem two_E {Γ : Ga} {p q : Pl} (np : (leaves p).Nodup) (nq : (leaves q).Nodup) (hp : (leaves p).length ≤ 50) (hq : (leaves q).length ≤ 50) (h2 : Γ[2]? = some (.dat (eP p))) (h3 : Γ[3]? = some (.dat (eP q))) (h4 : Γ[4]? = some (.dat (toldD p q))) :
    tOrr (tX (mOp (fEq true) (mOp (fEq false) (mCall m_p_formed (lCons (mVar 2) lNil)) (mCall m_p_formed (lCons (mVar 3) lNil))) (mOp (fEq false) (mIx (rX (mVar 4)) (mC (.int 0))) (mIx (rX (mVar 4)) (mC (.int 1)))))) (tX (mOp (fEq true) (mCall m_p_formed (lCons (mVar 2) lNil)) (mCall (m_formed 50) (lCons (mVar 2) lNil)))) Γ = some (false, Γ) := by
  have f2 := call_one (var_at h2) (ev_formed np (by omega))
  have f3 := call_one (var_at h3) (ev_formed nq (by omega))
  have g2 := call_one (var_at h2) (ev_law_formed p 50 hp hp np)
  have x0 : mIx (rX (mVar 4)) (mC (.int 0)) Γ = some (.tuple ((lots p).map eL), Γ) := ix_of (var_at h4) rfl
  have x1 : mIx (rX (mVar 4)) (mC (.int 1)) Γ = some (.tuple ((lots q).map eL), Γ) := ix_of (var_at h4) rfl
  have sp : Sh 50 (eP (formed p)) := (sh_eP (formed p)).mono (by rw [(formed_leaves p).length_eq]; exact hp)
  have sq : Sh 50 (eP (formed q)) := (sh_eP (formed q)).mono (by rw [(formed_leaves q).length_eq]; exact hq)
  have t2 : tX (mOp (fEq true) (mCall m_p_formed (lCons (mVar 2) lNil)) (mCall (m_formed 50) (lCons (mVar 2) lNil))) Γ = some (false, Γ) := tX_of (op_of f2 g2 (fEq_same (neg := true) sp (by decide)))
  have t1 : tX (mOp (fEq true) (mOp (fEq false) (mCall m_p_formed (lCons (mVar 2) lNil)) (mCall m_p_formed (lCons (mVar 3) lNil))) (mOp (fEq false) (mIx (rX (mVar 4)) (mC (.int 0))) (mIx (rX (mVar 4)) (mC (.int 1))))) Γ = some (false, Γ) := by
    have hi := lots_iff np nq hp hq
    by_cases c : eP (formed p) = eP (formed q)
    · have c' := hi.mp c
      have e1 : fEq false (eP (formed p)) (eP (formed q)) = some (.bool true) := by rw [c]; exact fEq_same (neg := false) sq (by decide)
      have e2 : fEq false (PyData.tuple ((lots p).map eL)) (.tuple ((lots q).map eL)) = some (.bool true) := by rw [c']; exact fEq_same (neg := false) (sh_lots _) (by decide)
      exact tX_of (op_of (op_of f2 f3 e1) (op_of x0 x1 e2) rfl)
    · have e1 := fEq_ne sp sq (by decide) (by decide) c
      have e2 := fEq_ne (sh_lots (lots p)) (sh_lots (lots q)) (by decide) (by decide) fun z => c (hi.mpr z)
      exact tX_of (op_of (op_of f2 f3 e1) (op_of x0 x1 e2) rfl)
  simp only [tOrr, t1, Option.bind_some, Bool.false_eq_true, if_false, t2]
end Tst


namespace Tst
open PySem PySem.Spec PyProof.Rows L2 MM LM
variable [Tb]
/-! ### dict([(lot, 0) ..]) -/
abbrev kz (l : List Nat) : List L2.Key × PyData := (kl l, .int 0)
theorem prs_eL (L : List (List Nat)) : prsOf (L.map fun l => .tuple [eL l, .int 0]) = some (L.map kz) := by
  induction L with
  | nil => rfl
  | cons l L ih =>
    have hp : prOf (.tuple [eL l, .int 0]) = some (kz l) := by simp only [prOf, keyT_eL, Option.bind_some]
    simp only [List.map_cons, prsOf, hp, Option.bind_some] at ih ⊢
    rw [ih]
    rfl
theorem putD_kz (K : List (List Nat)) (l : List Nat) : putD (K.map kz) (kl l) (.int 0) = (if l ∈ K then K else K ++ [l]).map kz := by
  unfold putD
  by_cases c : l ∈ K
  · rw [if_pos c, if_pos]
    · rw [List.map_map]
      refine List.map_congr_left fun x _ => ?_
      show (if kl x = kl l then (kl x, PyData.int 0) else kz x) = kz x
      split <;> rfl
    · refine List.any_eq_true.mpr ⟨kz l, List.mem_map.mpr ⟨l, c, rfl⟩, by simp⟩
  · rw [if_neg c, if_neg]
    · rw [List.map_append]
      rfl
    · intro h
      obtain ⟨kv, m, e⟩ := List.any_eq_true.mp h
      obtain ⟨x, mx, rfl⟩ := List.mem_map.mp m
      have e : kl x = kl l := by simpa using e
      rw [kl_inj _ _ e] at mx
      exact c mx
theorem foldD_kz (L : List (List Nat)) : ∀ K : List (List Nat), K.Nodup → ∃ K' : List (List Nat), (L.map kz).foldl (fun m p => putD m p.1 p.2) (K.map kz) = K'.map kz ∧ K'.Nodup ∧ K'.length ≤ K.length + L.length ∧ ∀ x ∈ K', x ∈ K ∨ x ∈ L := by
  induction L with
  | nil => exact fun K n => ⟨K, rfl, n, by simp, fun x m => .inl m⟩
  | cons l L ih =>
    intro K n
    by_cases c : l ∈ K
    · obtain ⟨K', e, h1, h2, h3⟩ := ih K n
      refine ⟨K', ?_, h1, by rw [List.length_cons]; omega, fun x m => (h3 x m).imp id (List.mem_cons_of_mem _)⟩
      rw [List.map_cons, List.foldl_cons, putD_kz, if_pos c]
      exact e
    · have n' : (K ++ [l]).Nodup := List.nodup_append.mpr ⟨n, by simp, fun a ha b hb e => by rw [List.mem_singleton.mp hb] at e; rw [e] at ha; exact c ha⟩
      obtain ⟨K', e, h1, h2, h3⟩ := ih (K ++ [l]) n'
      refine ⟨K', ?_, h1, by rw [List.length_append, List.length_singleton] at h2; rw [List.length_cons]; omega, fun x m => ?_⟩
      · rw [List.map_cons, List.foldl_cons, putD_kz, if_neg c]
        exact e
      · rcases h3 x m with h | h
        · rcases List.mem_append.mp h with h | h
          · exact .inl h
          · rw [List.mem_singleton.mp h]
            exact .inr (List.mem_cons_self ..)
        · exact .inr (List.mem_cons_of_mem _ h)
theorem two_F (g : Gn) (n : Nat) (p q : Pl) (hp : (leaves p).length ≤ 50) (hq : (leaves q).length ≤ 50) (c2 c3 c5 c6 c7 : Cell) : ∃ K : List (List Nat),
    sDictT 5 (rX (fzL (lLc (iTp (mOp fCat (mIx (rX (mVar 4)) (mC (.int 0))) (mIx (rX (mVar 4)) (mC (.int 1))))) (bName 10) tTrue (mTup (lCons (mVar 10) (lCons (mC (.int 0)) lNil))) [10]))) (stT g n c2 c3 (.dat (toldD p q)) c5 c6 c7) = some (.nx, stT g n c2 c3 (.dat (toldD p q)) (.dT (K.map kz)) c6 c7) ∧ K.Nodup ∧ K.length ≤ 1000 ∧ ∀ x ∈ K, x ∈ lots p ∨ x ∈ lots q := by
  have l1' := lots_len p
  have l2' := lots_len q
  obtain ⟨K, e, h1, h2, h3⟩ := foldD_kz (lots p ++ lots q) [] List.nodup_nil
  refine ⟨K, ?_, h1, by rw [List.length_append] at h2; simp at h2; omega, fun x m => ?_⟩
  · have x0 : mIx (rX (mVar 4)) (mC (.int 0)) (stT g n c2 c3 (.dat (toldD p q)) c5 c6 c7) = some (.tuple ((lots p).map eL), stT g n c2 c3 (.dat (toldD p q)) c5 c6 c7) := ix_of (var_at (i := 4) rfl) rfl
    have x1 : mIx (rX (mVar 4)) (mC (.int 1)) (stT g n c2 c3 (.dat (toldD p q)) c5 c6 c7) = some (.tuple ((lots q).map eL), stT g n c2 c3 (.dat (toldD p q)) c5 c6 c7) := ix_of (var_at (i := 4) rfl) rfl
    have hcat : fCat (.tuple ((lots p).map eL)) (.tuple ((lots q).map eL)) = some (.tuple ((lots p ++ lots q).map eL)) := by
      have : ((lots p).map eL).length + ((lots q).map eL).length ≤ 100000 := by rw [List.length_map, List.length_map]; omega
      simp only [fCat, fit_ok this, List.map_append]
    have hi : iTp (mOp fCat (mIx (rX (mVar 4)) (mC (.int 0))) (mIx (rX (mVar 4)) (mC (.int 1)))) (stT g n c2 c3 (.dat (toldD p q)) c5 c6 c7) = some ((lots p ++ lots q).map eL, any_, stT g n c2 c3 (.dat (toldD p q)) c5 c6 c7) := by
      simp only [iTp, op_of x0 x1 hcat, Option.bind_some]
    have hc : compGo any_ (bName 10) tTrue (mTup (lCons (mVar 10) (lCons (mC (.int 0)) lNil))) [10] ((lots p ++ lots q).map eL) (stT g n c2 c3 (.dat (toldD p q)) c5 c6 c7) = some ((lots p ++ lots q).map (fun l => .tuple [eL l, .int 0]), stT g n c2 c3 (.dat (toldD p q)) c5 c6 c7) :=
      comp_map (f := eL) (g := fun l => .tuple [eL l, .int 0]) _ fun l m => ⟨[.src g, .dat (.int (n : Int)), c2, c3, .dat (toldD p q), c5, c6, c7, .no, .no, .dat (eL l)], [.src g, .dat (.int (n : Int)), c2, c3, .dat (toldD p q), c5, c6, c7, .no, .no, .dat (eL l)], rfl, rfl, rfl, rfl⟩
    have hf : ((lots p ++ lots q).map eL).length ≤ 100000 := by rw [List.length_map, List.length_append]; omega
    have hL := rX_of (fzL_of (lc_of hi hf rfl hc))
    have e : foldD ((lots p ++ lots q).map kz) = K.map kz := e
    unfold sDictT
    rw [hL, Option.bind_some]
    simp only [Option.bind_some, prs_eL, e]
    rfl
  · rcases h3 x m with h | h
    · cases h
    · exact List.mem_append.mp h
/-! ### some of the keys -/
theorem cf_go {t : MT} {n : Nat} {c2 c3 c4 c5 c6 c7 : Cell} (ht : ∀ (g : Gn) (d : PyData), ∃ b g', t [.src g, .dat (.int (n : Int)), c2, c3, c4, c5, c6, c7, .no, .no, .dat d] = some (b, [.src g', .dat (.int (n : Int)), c2, c3, c4, c5, c6, c7, .no, .no, .dat d])) (K : List (List Nat)) : ∀ g : Gn, ∃ (W : List (List Nat)) (g' : Gn),
    compGo any_ (bName 10) t (mVar 10) [10] (K.map eL) (stT g n c2 c3 c4 c5 c6 c7) = some (W.map eL, stT g' n c2 c3 c4 c5 c6 c7) ∧ W.Sublist K := by
  induction K with
  | nil =>
    intro g
    refine ⟨[], g, ?_, .refl _⟩
    rw [List.map_nil, compGo, if_pos (show any_ _ from trivial)]
    try rfl
  | cons l K ih =>
    intro g
    obtain ⟨b, g1, e1⟩ := ht g (eL l)
    obtain ⟨W, g2, e2, s2⟩ := ih g1
    have hb : bName 10 (eL l) (stT g n c2 c3 c4 c5 c6 c7) = some [.src g, .dat (.int (n : Int)), c2, c3, c4, c5, c6, c7, .no, .no, .dat (eL l)] := rfl
    have hv : mVar 10 [.src g1, .dat (.int (n : Int)), c2, c3, c4, c5, c6, c7, .no, .no, .dat (eL l)] = some (eL l, [.src g1, .dat (.int (n : Int)), c2, c3, c4, c5, c6, c7, .no, .no, .dat (eL l)]) := rfl
    have hw : wpG [.src g1, .dat (.int (n : Int)), c2, c3, c4, c5, c6, c7, .no, .no, .dat (eL l)] [10] = stT g1 n c2 c3 c4 c5 c6 c7 := rfl
    cases b with
    | true =>
      refine ⟨l :: W, g2, ?_, s2.cons_cons _⟩
      rw [List.map_cons, compGo, if_pos (show any_ _ from trivial), hb]
      simp only [Option.bind_some, e1, if_true, hv, hw, e2, List.map_cons]
    | false =>
      refine ⟨W, g2, ?_, s2.cons _⟩
      rw [List.map_cons, compGo, if_pos (show any_ _ from trivial), hb]
      simp only [Option.bind_some, e1, Bool.false_eq_true, if_false, hw, e2]
theorem pick_test {i : Nat} {Γ : Ga} {g : Gn} (hg : Γ[i]? = some (.src g)) : ∃ b g', tX (mOp fGt (mCallS i m_pick (lCons (mC (.int 5)) lNil)) (mC (.int 0))) Γ = some (b, Γ.set i (.src g')) := by
  obtain ⟨r, g1, hr, e1⟩ := pick_nat g (n := 5) (by decide) (by decide)
  have ep := pick_two (i := i) (Γ := Γ) ((5 : Nat) : Int) hg e1
  have ep : mCallS i m_pick (lCons (mC (.int 5)) lNil) Γ = some (.int r, Γ.set i (.src g1)) := ep
  refine ⟨decide ((0 : Int) < r), g1, tX_of ?_⟩
  simp only [mOp, ep, mC, Option.bind_some, fGt, fInt]
theorem lcD_of {i : Nat} {b : MB} {t : MT} {m : MX} {vs : List Nat} {Γ Γ' : Ga} {kvs : List (List L2.Key × PyData)} {es : List PyData} (h0 : Γ[i]? = some (.dT kvs)) (hf : kvs.length ≤ 100000) (h1 : compGo any_ b t m vs (kvs.map fun p => .tuple (p.1.map unkey)) (wpG (Γ.set i .no) vs) = some (es, Γ')) (h2 : Γ'[i]? = some .no) : lLcD i b t m vs Γ = some (es, Γ'.set i (.dT kvs)) := by
  unfold lLcD
  rw [h0]
  dsimp only
  rw [fit_ok hf, Option.bind_some, h1, Option.bind_some]
  simp only [h2]
theorem two_G (g : Gn) (n : Nat) (K : List (List Nat)) (hK : K.length ≤ 1000) (hn : ∀ l ∈ K, l ≠ []) (c2 c3 c4 c6 c7 : Cell) : ∃ (W : List (List Nat)) (g' : Gn),
    (m1 fTuple (rX (fzL (l1 fSortT (rX (fzL (lLcD 5 (bName 10) (tX (mOp fGt (mCallS 0 m_pick (lCons (mC (.int 5)) lNil)) (mC (.int 0)))) (mVar 10) [10]))))))) (stT g n c2 c3 c4 (.dT (K.map kz)) c6 c7) = some (.tuple ((srt W).map eL), stT g' n c2 c3 c4 (.dT (K.map kz)) c6 c7) ∧ W.Sublist K := by
  obtain ⟨W, g', e, s⟩ := cf_go (t := tX (mOp fGt (mCallS 0 m_pick (lCons (mC (.int 5)) lNil)) (mC (.int 0)))) (n := n) (c2 := c2) (c3 := c3) (c4 := c4) (c5 := .no) (c6 := c6) (c7 := c7) (fun g d => pick_test (i := 0) rfl) K g
  refine ⟨W, g', ?_, s⟩
  have hk : ((K.map kz).map fun p => PyData.tuple (p.1.map unkey)) = K.map eL := keys_eL (by rw [List.map_map]; rfl)
  have hf : (K.map kz).length ≤ 100000 := by rw [List.length_map]; omega
  have hL : lLcD 5 (bName 10) (tX (mOp fGt (mCallS 0 m_pick (lCons (mC (.int 5)) lNil)) (mC (.int 0)))) (mVar 10) [10] (stT g n c2 c3 c4 (.dT (K.map kz)) c6 c7) = some (W.map eL, stT g' n c2 c3 c4 (.dT (K.map kz)) c6 c7) := by
    have e : compGo any_ (bName 10) (tX (mOp fGt (mCallS 0 m_pick (lCons (mC (.int 5)) lNil)) (mC (.int 0)))) (mVar 10) [10] ((K.map kz).map fun p => PyData.tuple (p.1.map unkey)) (wpG ((stT g n c2 c3 c4 (.dT (K.map kz)) c6 c7).set 5 .no) [10]) = some (W.map eL, stT g' n c2 c3 c4 .no c6 c7) := by
      rw [hk]
      exact e
    exact lcD_of (i := 5) rfl hf e rfl
  have hs := fSortT_eL (L := W) fun l m => hn l (s.subset m)
  exact m1_of (fzL_of (l1_of (fzL_of hL) hs)) rfl
/-! ### all is judged alike -/
noncomputable def hBody : MS := sIf (tX (mOp (fEq true) (mCall m_p_judge_lots (lCons (mVar 1) (lCons (mVar 7) lNil))) (mCall m_lots_fault (lCons (mVar 1) (lCons (mVar 7) lNil))))) (sRet (mC (.bool false))) sNext
theorem sh_jd (n : Nat) (V : List (List Nat)) : Sh 1 (jd n V) := by
  unfold jd
  split
  · split
    · refine Sh.tup fun d h => ?_
      rcases List.mem_cons.mp h with rfl | h
      · exact Sh.str _ _ (by decide +kernel)
      · rcases List.mem_cons.mp h with rfl | h
        · exact Sh.int _ _
        · rw [List.mem_singleton.mp h]
          exact Sh.int _ _
    · exact sh_due n V.length
  · refine Sh.tup fun d h => ?_
    rw [List.mem_singleton.mp h]
    exact Sh.str _ _ (by decide +kernel)
theorem h_body {Γ : Ga} {n : Nat} {V : List (List Nat)} (hV : Fine n V) (h1 : Γ[1]? = some (.dat (.int (n : Int)))) (h7 : Γ[7]? = some (.dat (.tuple (V.map eL)))) : hBody Γ = some (.nx, Γ) := by
  have a := call_two (var_at h1) (var_at h7) (ev_judge_lots hV)
  have b := call_two (var_at h1) (var_at h7) (ev_lots_fault hV)
  have t := tX_of (op_of a b (fEq_same (neg := true) (sh_jd n V) (by decide)))
  unfold hBody
  rw [sIf_of t]
  rfl
theorem h_go {n : Nat} (L : List (List (List Nat))) : ∀ (g : Gn) (c2 c3 c4 c5 c6 c7 : Cell), (∀ V ∈ L, Fine n V) → ∃ d7, forGo (bName 7) hBody (L.map fun V => .tuple (V.map eL)) (stT g n c2 c3 c4 c5 c6 c7) = some (.nx, stT g n c2 c3 c4 c5 c6 d7) := by
  induction L with
  | nil => exact fun g c2 c3 c4 c5 c6 c7 _ => ⟨c7, rfl⟩
  | cons V L ih =>
    intro g c2 c3 c4 c5 c6 c7 h
    obtain ⟨d7, e⟩ := ih g c2 c3 c4 c5 c6 (.dat (.tuple (V.map eL))) fun x m => h x (List.mem_cons_of_mem _ m)
    refine ⟨d7, ?_⟩
    have hb : bName 7 (.tuple (V.map eL)) (stT g n c2 c3 c4 c5 c6 c7) = some (stT g n c2 c3 c4 c5 c6 (.dat (.tuple (V.map eL)))) := rfl
    have hB := h_body (Γ := stT g n c2 c3 c4 c5 c6 (.dat (.tuple (V.map eL)))) (h V (List.mem_cons_self ..)) rfl rfl
    rw [List.map_cons, forGo, hb, Option.bind_some, hB]
    exact e
theorem sl_to {m : MX} {Γ : Ga} {ds : List PyData} (h : m Γ = some (.tuple ds, Γ)) : mSl (rX m) oNo (oX (mC (.int 1))) Γ = some (.tuple (ds.take 1), Γ) := by
  simp only [mSl, rX, oNo, oX, mC, h, Option.bind_some, cut_to]
theorem sl_from {m : MX} {Γ : Ga} {ds : List PyData} (h : m Γ = some (.tuple ds, Γ)) : mSl (rX m) (oX (mC (.int 1))) oNo Γ = some (.tuple (ds.drop 1), Γ) := by
  simp only [mSl, rX, oNo, oX, mC, h, Option.bind_some, cut_from]
theorem two_H (g : Gn) (n : Nat) (p q : Pl) (K W : List (List Nat)) (hp : (leaves p).length ≤ 50) (hq : (leaves q).length ≤ 50) (hn : ∀ l ∈ K, l ≠ []) (c2 c3 c7 : Cell) :
    iTp (mTup (lCons (m1 fTuple (rX (fzL (l1 fSortT (rX (fzL (lKeysT 5))))))) (lCons (mVar 6) (lCons (mOp fCat (mSl (rX (mIx (rX (mVar 4)) (mC (.int 0)))) oNo (oX (mC (.int 1)))) (mSl (rX (mIx (rX (mVar 4)) (mC (.int 1)))) (oX (mC (.int 1))) oNo)) lNil)))) (stT g n c2 c3 (.dat (toldD p q)) (.dT (K.map kz)) (.dat (.tuple ((srt W).map eL))) c7)
      = some ([srt K, srt W, (lots p).take 1 ++ (lots q).drop 1].map (fun V => .tuple (V.map eL)), any_, stT g n c2 c3 (.dat (toldD p q)) (.dT (K.map kz)) (.dat (.tuple ((srt W).map eL))) c7) := by
  have hk : ((K.map kz).map fun p => PyData.tuple (p.1.map unkey)) = K.map eL := keys_eL (by rw [List.map_map]; rfl)
  have k0 : lKeysT 5 (stT g n c2 c3 (.dat (toldD p q)) (.dT (K.map kz)) (.dat (.tuple ((srt W).map eL))) c7) = some (K.map eL, stT g n c2 c3 (.dat (toldD p q)) (.dT (K.map kz)) (.dat (.tuple ((srt W).map eL))) c7) := by
    rw [← hk]
    rfl
  have a1 := m1_of (f := fTuple) (e := .tuple ((srt K).map eL)) (fzL_of (l1_of (fzL_of k0) (fSortT_eL hn))) rfl
  have a2 : mVar 6 (stT g n c2 c3 (.dat (toldD p q)) (.dT (K.map kz)) (.dat (.tuple ((srt W).map eL))) c7) = some (.tuple ((srt W).map eL), stT g n c2 c3 (.dat (toldD p q)) (.dT (K.map kz)) (.dat (.tuple ((srt W).map eL))) c7) := rfl
  have x0 : mIx (rX (mVar 4)) (mC (.int 0)) (stT g n c2 c3 (.dat (toldD p q)) (.dT (K.map kz)) (.dat (.tuple ((srt W).map eL))) c7) = some (.tuple ((lots p).map eL), stT g n c2 c3 (.dat (toldD p q)) (.dT (K.map kz)) (.dat (.tuple ((srt W).map eL))) c7) := ix_of (var_at (i := 4) rfl) rfl
  have x1 : mIx (rX (mVar 4)) (mC (.int 1)) (stT g n c2 c3 (.dat (toldD p q)) (.dT (K.map kz)) (.dat (.tuple ((srt W).map eL))) c7) = some (.tuple ((lots q).map eL), stT g n c2 c3 (.dat (toldD p q)) (.dT (K.map kz)) (.dat (.tuple ((srt W).map eL))) c7) := ix_of (var_at (i := 4) rfl) rfl
  have l1' := lots_len p
  have l2' := lots_len q
  have hcat : fCat (.tuple (((lots p).map eL).take 1)) (.tuple (((lots q).map eL).drop 1)) = some (.tuple (((lots p).take 1 ++ (lots q).drop 1).map eL)) := by
    have : (((lots p).map eL).take 1).length + (((lots q).map eL).drop 1).length ≤ 100000 := by
      rw [List.length_take, List.length_drop, List.length_map, List.length_map]
      omega
    simp only [fCat, fit_ok this]
    rw [List.map_append, List.map_take, List.map_drop]
  have a3 := op_of (sl_to x0) (sl_from x1) hcat
  have ht : mTup (lCons (m1 fTuple (rX (fzL (l1 fSortT (rX (fzL (lKeysT 5))))))) (lCons (mVar 6) (lCons (mOp fCat (mSl (rX (mIx (rX (mVar 4)) (mC (.int 0)))) oNo (oX (mC (.int 1)))) (mSl (rX (mIx (rX (mVar 4)) (mC (.int 1)))) (oX (mC (.int 1))) oNo)) lNil))) (stT g n c2 c3 (.dat (toldD p q)) (.dT (K.map kz)) (.dat (.tuple ((srt W).map eL))) c7) = some (.tuple [.tuple ((srt K).map eL), .tuple ((srt W).map eL), .tuple (((lots p).take 1 ++ (lots q).drop 1).map eL)], stT g n c2 c3 (.dat (toldD p q)) (.dT (K.map kz)) (.dat (.tuple ((srt W).map eL))) c7) := by
    simp only [mTup, lCons, lNil, a1, a2, a3, Option.bind_some]
    rfl
  simp only [iTp, ht, Option.bind_some]
  rfl
theorem two_I (g : Gn) (n : Nat) (p q : Pl) (np : (leaves p).Nodup) (nq : (leaves q).Nodup) (hp : (leaves p).length ≤ 50) (hq : (leaves q).length ≤ 50) (c5 c6 c7 : Cell) :
    mOp (fEq false) (fzL (lLc (iLs (mVar 4)) (bName 8) tTrue (mCall m_p_plan_of (lCons (mVar 1) (lCons (mVar 8) lNil))) [8])) (fzL (lLst (lCons (mCall m_p_formed (lCons (mVar 2) lNil)) (lCons (mCall m_p_formed (lCons (mVar 3) lNil)) lNil)))) (stT g n (.dat (eP p)) (.dat (eP q)) (.dat (toldD p q)) c5 c6 c7) = some (.bool true, stT g n (.dat (eP p)) (.dat (eP q)) (.dat (toldD p q)) c5 c6 c7) := by
  have c1 : compGo any_ (bName 8) tTrue (mCall m_p_plan_of (lCons (mVar 1) (lCons (mVar 8) lNil))) [8] ([p, q].map fun r => .tuple ((lots r).map eL)) (stT g n (.dat (eP p)) (.dat (eP q)) (.dat (toldD p q)) c5 c6 c7) = some ([p, q].map fun r => eP (formed r), stT g n (.dat (eP p)) (.dat (eP q)) (.dat (toldD p q)) c5 c6 c7) :=
    comp_map (f := fun r => .tuple ((lots r).map eL)) (g := fun r => eP (formed r)) [p, q] fun r m => ⟨[.src g, .dat (.int (n : Int)), .dat (eP p), .dat (eP q), .dat (toldD p q), c5, c6, c7, .dat (.tuple ((lots r).map eL)), .no, .no], [.src g, .dat (.int (n : Int)), .dat (eP p), .dat (eP q), .dat (toldD p q), c5, c6, c7, .dat (.tuple ((lots r).map eL)), .no, .no], rfl, rfl, by
      have hr : (leaves r).Nodup ∧ (leaves r).length ≤ 50 := by
        rcases List.mem_cons.mp m with rfl | m
        · exact ⟨np, hp⟩
        · rw [List.mem_singleton.mp m]; exact ⟨nq, hq⟩
      exact call_two (var_at (i := 1) rfl) (var_at (i := 8) rfl) (ev_plan_of n hr.1 (by omega) (srt_perm _)), rfl⟩
  have i1 : iLs (mVar 4) (stT g n (.dat (eP p)) (.dat (eP q)) (.dat (toldD p q)) c5 c6 c7) = some ([p, q].map fun r => .tuple ((lots r).map eL), any_, stT g n (.dat (eP p)) (.dat (eP q)) (.dat (toldD p q)) c5 c6 c7) := rfl
  have l1' := fzL_of (lc_of i1 (by simp) rfl c1)
  have f2 := call_one (var_at (i := 2) (Γ := stT g n (.dat (eP p)) (.dat (eP q)) (.dat (toldD p q)) c5 c6 c7) rfl) (ev_formed np (by omega))
  have f3 := call_one (var_at (i := 3) (Γ := stT g n (.dat (eP p)) (.dat (eP q)) (.dat (toldD p q)) c5 c6 c7) rfl) (ev_formed nq (by omega))
  have l2' : fzL (lLst (lCons (mCall m_p_formed (lCons (mVar 2) lNil)) (lCons (mCall m_p_formed (lCons (mVar 3) lNil)) lNil))) (stT g n (.dat (eP p)) (.dat (eP q)) (.dat (toldD p q)) c5 c6 c7) = some (.list [eP (formed p), eP (formed q)], stT g n (.dat (eP p)) (.dat (eP q)) (.dat (toldD p q)) c5 c6 c7) := by
    refine fzL_of ?_
    simp only [lLst, lCons, lNil, f2, f3, Option.bind_some]
    rfl
  have sh : Sh 51 (.list [eP (formed p), eP (formed q)]) := Sh.lst fun d m => by
    rcases List.mem_cons.mp m with rfl | m
    · exact (sh_eP (formed p)).mono (by rw [(formed_leaves p).length_eq]; exact hp)
    · rw [List.mem_singleton.mp m]
      exact (sh_eP (formed q)).mono (by rw [(formed_leaves q).length_eq]; exact hq)
  exact op_of l1' l2' (fEq_same (neg := false) sh (by decide))
end Tst


namespace Tst
open PySem PySem.Spec PyProof.Rows L2 MM LM
variable [Tb]
theorem ev_two_right (g : Gn) (n : Nat) (h1 : 1 ≤ n) (hn : n ≤ 50) : ∃ g', m_two_right g [.int n] = some (.bool true, g') := by
  obtain ⟨p, g1, eA, pp⟩ := two_A g n h1 hn (stT g n .no .no .no .no .no .no) rfl rfl
  obtain ⟨q, g2, eB, pq⟩ := two_B g1 n h1 hn p pp .no .no .no .no .no
  have lp : (leaves p).length = n := by rw [pp.length_eq, List.length_range]
  have lq : (leaves q).length = n := by rw [pq.length_eq, List.length_range]
  have np : (leaves p).Nodup := pp.nodup_iff.mpr List.nodup_range
  have nq : (leaves q).Nodup := pq.nodup_iff.mpr List.nodup_range
  have isP : ∀ l ∈ lots p, IsLot n l := fun l m => by
    obtain ⟨r, mr, rfl⟩ := mem_lots.mp m
    exact ⟨lot_asc (sub_nodup mr np), lot_ne r, fun x hx => List.mem_range.mp (pp.mem_iff.mp (sub_leaves mr x (mem_lot.mp hx)))⟩
  have isQ : ∀ l ∈ lots q, IsLot n l := fun l m => by
    obtain ⟨r, mr, rfl⟩ := mem_lots.mp m
    exact ⟨lot_asc (sub_nodup mr nq), lot_ne r, fun x hx => List.mem_range.mp (pq.mem_iff.mp (sub_leaves mr x (mem_lot.mp hx)))⟩
  have eC := two_C p q (by omega) (by omega) (stT g2 n (.dat (eP p)) (.dat (eP q)) .no .no .no .no) rfl rfl
  have eD := two_D g2 n p q (by omega) (by omega) .no .no .no
  have eE := two_E (Γ := stT g2 n (.dat (eP p)) (.dat (eP q)) (.dat (toldD p q)) .no .no .no) np nq (by omega) (by omega) rfl rfl rfl
  obtain ⟨K, eF, nK, lK, mK⟩ := two_F g2 n p q (by omega) (by omega) (.dat (eP p)) (.dat (eP q)) .no .no .no
  have isK : ∀ l ∈ K, IsLot n l := fun l m => (mK l m).elim (isP l) (isQ l)
  have neK : ∀ l ∈ K, l ≠ [] := fun l m => (isK l m).ne
  obtain ⟨W, g3, eG, sW⟩ := two_G g2 n K lK neK (.dat (eP p)) (.dat (eP q)) (.dat (toldD p q)) .no .no
  have eH := two_H g3 n p q K W (by omega) (by omega) neK (.dat (eP p)) (.dat (eP q)) .no
  have l1' := lots_len p
  have l2' := lots_len q
  have fine : ∀ V ∈ [srt K, srt W, (lots p).take 1 ++ (lots q).drop 1], Fine n V := fun V m => by
    rcases List.mem_cons.mp m with rfl | m
    · exact ⟨fun l h => isK l (mem_srt.mp h), by rw [(srt_perm _).length_eq]; exact lK, by omega⟩
    · rcases List.mem_cons.mp m with rfl | m
      · refine ⟨fun l h => isK l (sW.subset (mem_srt.mp h)), ?_, by omega⟩
        rw [(srt_perm _).length_eq]
        exact Nat.le_trans sW.length_le lK
      · rw [List.mem_singleton.mp m]
        refine ⟨fun l h => ?_, ?_, by omega⟩
        · rcases List.mem_append.mp h with h | h
          · exact isP l (List.mem_of_mem_take h)
          · exact isQ l (List.mem_of_mem_drop h)
        · rw [List.length_append, List.length_take, List.length_drop]
          omega
  obtain ⟨d7, eL'⟩ := h_go [srt K, srt W, (lots p).take 1 ++ (lots q).drop 1] g3 (.dat (eP p)) (.dat (eP q)) (.dat (toldD p q)) (.dT (K.map kz)) (.dat (.tuple ((srt W).map eL))) .no fine
  have eI' := two_I g3 n p q np nq (by omega) (by omega) (.dT (K.map kz)) (.dat (.tuple ((srt W).map eL))) d7
  have sA := sAsg_of (b := bName 2) eA (Γ2 := stT g1 n (.dat (eP p)) .no .no .no .no .no) rfl
  have sB := sAsg_of (b := bName 3) eB (Γ2 := stT g2 n (.dat (eP p)) (.dat (eP q)) .no .no .no .no) rfl
  have sC := sAsg_of (b := bName 4) eC (Γ2 := stT g2 n (.dat (eP p)) (.dat (eP q)) (.dat (toldD p q)) .no .no .no) rfl
  have sD := sIf_of (x := sRet (mC (.bool false))) (y := sNext) eD
  have sE := sIf_of (x := sRet (mC (.bool false))) (y := sNext) eE
  have sG := sAsg_of (b := bName 6) eG (Γ2 := stT g3 n (.dat (eP p)) (.dat (eP q)) (.dat (toldD p q)) (.dT (K.map kz)) (.dat (.tuple ((srt W).map eL))) .no) rfl
  rw [if_neg (by decide)] at sD sE
  have sH : sFor (iTp (mTup (lCons (m1 fTuple (rX (fzL (l1 fSortT (rX (fzL (lKeysT 5))))))) (lCons (mVar 6) (lCons (mOp fCat (mSl (rX (mIx (rX (mVar 4)) (mC (.int 0)))) oNo (oX (mC (.int 1)))) (mSl (rX (mIx (rX (mVar 4)) (mC (.int 1)))) (oX (mC (.int 1))) oNo)) lNil))))) (bName 7) hBody (stT g3 n (.dat (eP p)) (.dat (eP q)) (.dat (toldD p q)) (.dT (K.map kz)) (.dat (.tuple ((srt W).map eL))) .no) = some (.nx, stT g3 n (.dat (eP p)) (.dat (eP q)) (.dat (toldD p q)) (.dT (K.map kz)) (.dat (.tuple ((srt W).map eL))) d7) := by
    simp only [sFor, eH, Option.bind_some]
    exact eL'
  have sI : sRet (mOp (fEq false) (fzL (lLc (iLs (mVar 4)) (bName 8) tTrue (mCall m_p_plan_of (lCons (mVar 1) (lCons (mVar 8) lNil))) [8])) (fzL (lLst (lCons (mCall m_p_formed (lCons (mVar 2) lNil)) (lCons (mCall m_p_formed (lCons (mVar 3) lNil)) lNil))))) (stT g3 n (.dat (eP p)) (.dat (eP q)) (.dat (toldD p q)) (.dT (K.map kz)) (.dat (.tuple ((srt W).map eL))) d7) = some (.rt (.bool true), stT g3 n (.dat (eP p)) (.dat (eP q)) (.dat (toldD p q)) (.dT (K.map kz)) (.dat (.tuple ((srt W).map eL))) d7) := by
    simp only [sRet, eI', Option.bind_some]
  have hall : b_two_right (stT g n .no .no .no .no .no .no) = some (.rt (.bool true), stT g3 n (.dat (eP p)) (.dat (eP q)) (.dat (toldD p q)) (.dT (K.map kz)) (.dat (.tuple ((srt W).map eL))) d7) := by
    unfold b_two_right
    rw [sSeq_of sA, sSeq_of sB, sSeq_of sC, sSeq_of sD, sSeq_of sE, sSeq_of eF, sSeq_of sG]
    exact (sSeq_of sH).trans sI
  exact ⟨g3, run_of rfl rfl hall rfl⟩
/-! ### the law -/
noncomputable def lawT (mf : Gn → List PyData → Option (PyData × Gn)) (a : Int) (mp : MX) : MS := sIf (tNo (tX (mCallS 1 mf (lCons (mOp fAdd (mC (.int a)) mp) lNil)))) (sRet (mC (.bool false))) sNext
theorem callS_of {i : Nat} {mf : Gn → List PyData → Option (PyData × Gn)} {m : MX} {Γ Γ1 : Ga} {g0 g g' : Gn} {a d : PyData} (h0 : Γ[i]? = some (.src g0)) (h : m Γ = some (a, Γ1)) (hg : Γ1[i]? = some (.src g)) (hf : mf g [a] = some (d, g')) : mCallS i mf (lCons m lNil) Γ = some (d, Γ1.set i (.src g')) := by
  simp only [mCallS, lCons, lNil, h0, h, hg, hf, Option.bind_some]
theorem add_of {mp : MX} {Γ Γ1 : Ga} {a r : Int} (h : mp Γ = some (.int r, Γ1)) : mOp fAdd (mC (.int a)) mp Γ = some (.int (a + r), Γ1) := by
  have hf : fAdd (.int a) (.int r) = some (.int (a + r)) := rfl
  simp only [mOp, mC, h, hf, Option.bind_some]
theorem tNo_of {t : MT} {Γ Γ' : Ga} {b : Bool} (h : t Γ = some (b, Γ')) : tNo t Γ = some (!b, Γ') := by
  simp only [tNo, h, Option.bind_some]
theorem lawT_of {mf : Gn → List PyData → Option (PyData × Gn)} {mp : MX} {a r : Int} {g g1 g2 : Gn} {c : Cell} (hp : mp [.no, .src g, c] = some (.int r, [.no, .src g1, c])) (hm : mf g1 [.int (a + r)] = some (.bool true, g2)) : lawT mf a mp [.no, .src g, c] = some (.nx, [.no, .src g2, c]) := by
  have ec := callS_of (i := 1) (Γ := [.no, .src g, c]) (g0 := g) rfl (add_of (a := a) hp) (g := g1) rfl hm
  unfold lawT
  rw [sIf_of (tNo_of (tX_of ec))]
  rfl
theorem pick_law (k : Nat) (hk : 1 ≤ k) (hk2 : k ≤ 100) (g : Gn) (c : Cell) : ∃ (r : Nat) (g' : Gn), r < k ∧ mCallS 1 m_pick (lCons (mC (.int (k : Int))) lNil) [.no, .src g, c] = some (.int r, [.no, .src g', c]) := by
  obtain ⟨r, g1, hr, e1⟩ := pick_nat g (n := k) hk (by omega)
  exact ⟨r, g1, hr, pick_two (i := 1) (Γ := [.no, .src g, c]) (k : Int) rfl e1⟩
theorem law_turn {mf : Gn → List PyData → Option (PyData × Gn)} {a k : Nat} (hk : 1 ≤ k) (hk2 : k ≤ 100) (hm : ∀ (g : Gn) (r : Nat), r < k → ∃ g', mf g [.int ((a : Int) + (r : Int))] = some (.bool true, g')) (g : Gn) (c : Cell) : ∃ g', lawT mf (a : Int) (mCallS 1 m_pick (lCons (mC (.int (k : Int))) lNil)) [.no, .src g, c] = some (.nx, [.no, .src g', c]) := by
  obtain ⟨r, g1, hr, e1⟩ := pick_law k hk hk2 g c
  obtain ⟨g2, e2⟩ := hm g1 r hr
  exact ⟨g2, lawT_of e1 e2⟩
theorem law_go {m : MS} (h : ∀ (g : Gn) (c : Cell), ∃ g', m [.no, .src g, c] = some (.nx, [.no, .src g', c])) (J : List PyData) : ∀ (g : Gn) (c : Cell), ∃ g' c', forGo (bName 2) m J [.no, .src g, c] = some (.nx, [.no, .src g', c']) := by
  induction J with
  | nil => exact fun g c => ⟨g, c, rfl⟩
  | cons d J ih =>
    intro g c
    obtain ⟨g1, e1⟩ := h g (.dat d)
    obtain ⟨g2, c2, e2⟩ := ih g1 (.dat d)
    refine ⟨g2, c2, ?_⟩
    have hb : bName 2 d [.no, .src g, c] = some [.no, .src g, .dat d] := rfl
    rw [forGo, hb, Option.bind_some, e1]
    exact e2
theorem law_for {m : MS} {mi : MI} {J : List PyData} {g : Gn} {c : Cell} (hi : mi [.no, .src g, c] = some (J, any_, [.no, .src g, c])) (h : ∀ (g : Gn) (c : Cell), ∃ g', m [.no, .src g, c] = some (.nx, [.no, .src g', c])) : ∃ g' c', sFor mi (bName 2) m [.no, .src g, c] = some (.nx, [.no, .src g', c']) := by
  obtain ⟨g', c', e⟩ := law_go h J g c
  refine ⟨g', c', ?_⟩
  simp only [sFor, hi, Option.bind_some]
  exact e
theorem grown_arg (g : Gn) (r : Nat) (hr : r < 4) : ∃ g', m_grown_right g [.int (((2 : Nat) : Int) + (r : Int))] = some (.bool true, g') := by
  rw [show ((2 : Nat) : Int) + (r : Int) = ((2 + r : Nat) : Int) by omega]
  exact ev_grown_right g (2 + r) (by omega) (by omega)
theorem two_arg (g : Gn) (r : Nat) (hr : r < 9) : ∃ g', m_two_right g [.int (((1 : Nat) : Int) + (r : Int))] = some (.bool true, g') := by
  rw [show ((1 : Nat) : Int) + (r : Int) = ((1 + r : Nat) : Int) by omega]
  exact ev_two_right g (1 + r) (by omega) (by omega)
theorem law_run {mA mB : MS} (hA : ∀ (g : Gn) (c : Cell), ∃ g', mA [.no, .src g, c] = some (.nx, [.no, .src g', c])) (hB : ∀ (g : Gn) (c : Cell), ∃ g', mB [.no, .src g, c] = some (.nx, [.no, .src g', c])) (g : Gn) (c : Cell) : ∃ Γ, sSeq (sFor (iR1 (mC (.int 2))) (bName 2) mA) (sSeq (sFor (iR1 (mC (.int 3))) (bName 2) mB) (sRet (mC (.bool true)))) [.no, .src g, c] = some (.rt (.bool true), Γ) := by
  have i1 := iR1_nat (m := mC (.int 2)) (Γ := [.no, .src g, c]) (j := 2) rfl (by decide) (by decide)
  obtain ⟨g1, c1, e1⟩ := law_for i1 hA
  have i2 := iR1_nat (m := mC (.int 3)) (Γ := [.no, .src g1, c1]) (j := 3) rfl (by decide) (by decide)
  obtain ⟨g2, c2, e2⟩ := law_for i2 hB
  refine ⟨[.no, .src g2, c2], ?_⟩
  rw [sSeq_of e1, sSeq_of e2]
  rfl
theorem law_ok : MM.LawOk 1 b_law := fun ns _ => law_run (law_turn (k := 4) (by decide) (by decide) grown_arg) (law_turn (k := 9) (by decide) (by decide) two_arg) (openG ns) .no
end Tst



instance tb47 : MM.Tb := ⟨[(148, "_law_plan_by.<locals>.<lambda>")]⟩

open PySem PySem.W PyProof.Rows
set_option maxRecDepth 100000 in
set_option maxHeartbeats 0 in
theorem PySem.Challenge.cw_foxborders_k47_whole_lots_that_do_not_cr_holds : PySem.Challenge.rw_foxborders_k47_whole_lots_that_do_not_cr.Holds := by
  w_on; o_law; k_head; (case hw => w_witness2)
  k_fill
  refine MM.walk_lawT (l := PySem.Challenge.rw_foxborders_k47_whole_lots_that_do_not_cr) (k := 104) rfl rfl ⟨rfl, by decide, by decide⟩ (fun w h Y => PySem.W.km_in_of Y) ?F
  case F =>
    intro w mg fa h Y KX G hmg
    refine' Tst.all_mk KX G hmg Tst.law_ok ?a_p_is_number ?l_p_is_number ?c_p_is_number ?k_p_is_number ?a_p_mask_of ?l_p_mask_of ?c_p_mask_of ?k_p_mask_of ?a_p_is_lot ?l_p_is_lot ?c_p_is_lot ?k_p_is_lot ?a_p_leaves ?l_p_leaves ?c_p_leaves ?k_p_leaves ?a_p_shires_of ?l_p_shires_of ?c_p_shires_of ?k_p_shires_of ?a_p_parted ?l_p_parted ?c_p_parted ?k_p_parted ?a_p_lots_of ?l_p_lots_of ?c_p_lots_of ?k_p_lots_of ?a_p_plan_by_lots ?l_p_plan_by_lots ?c_p_plan_by_lots ?k_p_plan_by_lots ?a_p_formed ?l_p_formed ?c_p_formed ?k_p_formed ?a_p_cross ?l_p_cross ?c_p_cross ?k_p_cross ?a_p_first_cross ?l_p_first_cross ?c_p_first_cross ?k_p_first_cross ?a_p_judge_lots ?l_p_judge_lots ?c_p_judge_lots ?k_p_judge_lots ?a_p_plan_of ?l_p_plan_of ?c_p_plan_of ?k_p_plan_of ?a_open_cells ?l_open_cells ?c_open_cells ?k_open_cells ?a_pick ?l_pick ?c_pick ?k_pick ?a_any_order ?l_any_order ?c_any_order ?k_any_order ?a_plan_lots ?l_plan_lots ?c_plan_lots ?k_plan_lots ?a_draw_plan ?l_draw_plan ?c_draw_plan ?k_draw_plan ?a_formed ?l_formed ?c_formed ?k_formed ?a_is_lot ?l_is_lot ?c_is_lot ?k_is_lot ?a_cross ?l_cross ?c_cross ?k_cross ?a_lots_fault ?l_lots_fault ?c_lots_fault ?k_lots_fault ?a_plan_by ?l_plan_by ?c_plan_by ?k_plan_by ?a_all_lots ?l_all_lots ?c_all_lots ?k_all_lots ?a_grown_right ?l_grown_right ?c_grown_right ?k_grown_right ?a_turned ?l_turned ?c_turned ?k_turned ?a_two_right ?l_two_right ?c_two_right ?k_two_right ?a_law ?l_law ?c_law ?k_law ?z_len ?z_list ?z_tuple ?z_range ?z_dict ?z_sorted ?z_sum ?z_max ?z_min ?z_enumerate ?z_zip ?z_all ?z_any ?z_isinstance ?z_int ?z_abs ?z_repr ?z_bool ?e_plan_by ?lc_plan_by ?v1_plan_by ?v2_plan_by ?v3_plan_by ?v4_plan_by ?v5_plan_by ?v6_plan_by ?ne_plan_by ?np_plan_by ?hP_plan_by ?hT
    (case a_p_is_number => k_is)
    (case l_p_is_number => k_is)
    (case c_p_is_number => k_is)
    (case k_p_is_number => k_is)
    (case a_p_mask_of => k_is)
    (case l_p_mask_of => k_is)
    (case c_p_mask_of => k_is)
    (case k_p_mask_of => k_is)
    (case a_p_is_lot => k_is)
    (case l_p_is_lot => k_is)
    (case c_p_is_lot => k_is)
    (case k_p_is_lot => k_is)
    (case a_p_leaves => k_is)
    (case l_p_leaves => k_is)
    (case c_p_leaves => k_is)
    (case k_p_leaves => k_is)
    (case a_p_shires_of => k_is)
    (case l_p_shires_of => k_is)
    (case c_p_shires_of => k_is)
    (case k_p_shires_of => k_is)
    (case a_p_parted => k_is)
    (case l_p_parted => k_is)
    (case c_p_parted => k_is)
    (case k_p_parted => k_is)
    (case a_p_lots_of => k_is)
    (case l_p_lots_of => k_is)
    (case c_p_lots_of => k_is)
    (case k_p_lots_of => k_is)
    (case a_p_plan_by_lots => k_is)
    (case l_p_plan_by_lots => k_is)
    (case c_p_plan_by_lots => k_is)
    (case k_p_plan_by_lots => k_is)
    (case a_p_formed => k_is)
    (case l_p_formed => k_is)
    (case c_p_formed => k_is)
    (case k_p_formed => k_is)
    (case a_p_cross => k_is)
    (case l_p_cross => k_is)
    (case c_p_cross => k_is)
    (case k_p_cross => k_is)
    (case a_p_first_cross => k_is)
    (case l_p_first_cross => k_is)
    (case c_p_first_cross => k_is)
    (case k_p_first_cross => k_is)
    (case a_p_judge_lots => k_is)
    (case l_p_judge_lots => k_is)
    (case c_p_judge_lots => k_is)
    (case k_p_judge_lots => k_is)
    (case a_p_plan_of => k_is)
    (case l_p_plan_of => k_is)
    (case c_p_plan_of => k_is)
    (case k_p_plan_of => k_is)
    (case a_open_cells => k_is)
    (case l_open_cells => k_is)
    (case c_open_cells => k_is)
    (case k_open_cells => k_is)
    (case a_pick => k_is)
    (case l_pick => k_is)
    (case c_pick => k_is)
    (case k_pick => k_is)
    (case a_any_order => k_is)
    (case l_any_order => k_is)
    (case c_any_order => k_is)
    (case k_any_order => k_is)
    (case a_plan_lots => k_is)
    (case l_plan_lots => k_is)
    (case c_plan_lots => k_is)
    (case k_plan_lots => k_is)
    (case a_draw_plan => k_is)
    (case l_draw_plan => k_is)
    (case c_draw_plan => k_is)
    (case k_draw_plan => k_is)
    (case a_formed => k_is)
    (case l_formed => k_is)
    (case c_formed => k_is)
    (case k_formed => k_is)
    (case a_is_lot => k_is)
    (case l_is_lot => k_is)
    (case c_is_lot => k_is)
    (case k_is_lot => k_is)
    (case a_cross => k_is)
    (case l_cross => k_is)
    (case c_cross => k_is)
    (case k_cross => k_is)
    (case a_lots_fault => k_is)
    (case l_lots_fault => k_is)
    (case c_lots_fault => k_is)
    (case k_lots_fault => k_is)
    (case a_plan_by => k_is)
    (case l_plan_by => k_is)
    (case c_plan_by => k_is)
    (case k_plan_by => k_is)
    (case a_all_lots => k_is)
    (case l_all_lots => k_is)
    (case c_all_lots => k_is)
    (case k_all_lots => k_is)
    (case a_grown_right => k_is)
    (case l_grown_right => k_is)
    (case c_grown_right => k_is)
    (case k_grown_right => k_is)
    (case a_turned => k_is)
    (case l_turned => k_is)
    (case c_turned => k_is)
    (case k_turned => k_is)
    (case a_two_right => k_is)
    (case l_two_right => k_is)
    (case c_two_right => k_is)
    (case k_two_right => k_is)
    (case a_law => k_is)
    (case l_law => k_is)
    (case c_law => k_is)
    (case k_law => k_is)
    (case z_len => k_is)
    (case z_list => k_is)
    (case z_tuple => k_is)
    (case z_range => k_is)
    (case z_dict => k_is)
    (case z_sorted => k_is)
    (case z_sum => k_is)
    (case z_max => k_is)
    (case z_min => k_is)
    (case z_enumerate => k_is)
    (case z_zip => k_is)
    (case z_all => k_is)
    (case z_any => k_is)
    (case z_isinstance => k_is)
    (case z_int => k_is)
    (case z_abs => k_is)
    (case z_repr => k_is)
    (case z_bool => k_is)
    (case e_plan_by => rfl)
    (case lc_plan_by => k_is)
    (case v1_plan_by => rfl)
    (case v2_plan_by => rfl)
    (case v3_plan_by => rfl)
    (case v4_plan_by => rfl)
    (case v5_plan_by => rfl)
    (case v6_plan_by => rfl)
    (case ne_plan_by => decide)
    (case np_plan_by => rfl)
    (case hP_plan_by => exact Y.2 _ (List.mem_cons_self ..))
    (case hT => rfl)



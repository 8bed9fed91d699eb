import Derived.Test.YtgkiknfpcbcnnaaGreatGaa
import Derived.Test.YtgkiknfpcbcnnaaGreatGn
namespace Go.Proofs.YtgkiknfpcbcnnaaGreat
open Go.RowKit
set_option maxRecDepth 20000
structure En where
  bt : ByteArray
  ac : Int
  tx : ByteArray
structure Wr where
  kd : Int
  pl : Int
  en : En
def enZ : En := ⟨⟨#[]⟩, 0, ⟨#[]⟩⟩
def enEq (a b : En) : Bool := decide (a.bt = b.bt) && (decide (a.ac = b.ac) && decide (a.tx = b.tx))
theorem enEq_iff (a b : En) : enEq a b = true ↔ a = b := by
  unfold enEq
  simp only [Bool.and_eq_true, decide_eq_true_eq]
  constructor
  · rintro ⟨h1, h2, h3⟩
    obtain ⟨a1, a2, a3⟩ := a
    obtain ⟨b1, b2, b3⟩ := b
    simp only at h1 h2 h3
    subst h1; subst h2; subst h3
    rfl
  · rintro rfl; exact ⟨rfl, rfl, rfl⟩
theorem enEq_self (a : En) : enEq a a = true := (enEq_iff a a).2 rfl
def inT (T : List En) (e : En) : Bool := T.any (enEq e)
theorem inT_iff (T : List En) (e : En) : inT T e = true ↔ e ∈ T := by
  unfold inT
  rw [List.any_eq_true]
  constructor
  · rintro ⟨x, hx, he⟩; rw [(enEq_iff _ _).1 he]; exact hx
  · intro h; exact ⟨e, h, enEq_self e⟩
theorem inT_not (T : List En) (e : En) : inT T e = false ↔ e ∉ T := by
  rw [← Bool.not_eq_true, inT_iff]
def plE (T : List En) (e : En) : Nat := T.findIdx (fun x => enEq x e)
theorem plE_lt (T : List En) (e : En) : plE T e < T.length ↔ e ∈ T := by
  unfold plE
  rw [List.findIdx_lt_length]
  constructor
  · rintro ⟨x, hx, he⟩; rw [← (enEq_iff _ _).1 he]; exact hx
  · intro h; exact ⟨e, h, enEq_self e⟩
theorem plE_at {T : List En} {e : En} (h : plE T e < T.length) : T[plE T e] = e := by
  have := List.findIdx_getElem (p := fun x => enEq x e) (xs := T) (w := h)
  exact (enEq_iff _ _).1 this
def lacks (a b : List En) : Nat := a.countP (fun e => !inT b e)
def mgF (A : List En) : List En → Nat → List En
  | [], n => A.drop n
  | e :: l, n => if plE A e < A.length then (A.take (plE A e + 1)).drop n ++ mgF A l (max n (plE A e + 1)) else e :: mgF A l n
structure MgI (R : En → En → Prop) (A l : List En) (n : Nat) : Prop where
  asy : ∀ a b, R a b → ¬ R b a
  sa : A.Pairwise R
  sl : l.Pairwise R
  from_ : ∀ e ∈ l, e ∈ A → n ≤ plE A e
theorem pw_lt {R : En → En → Prop} {A : List En} (asy : ∀ a b, R a b → ¬ R b a) (hs : A.Pairwise R) {i j : Nat} (hi : i < A.length) (hj : j < A.length) (h : R A[i] A[j]) : i < j := by
  apply Classical.byContradiction
  intro hn
  have hji : j < i ∨ j = i := by omega
  rcases hji with hji | rfl
  · have := (List.pairwise_iff_getElem.1 hs) j i hj hi hji
    exact asy _ _ h this
  · exact asy _ _ h h
theorem MgI.tail_no {R : En → En → Prop} {A l : List En} {n : Nat} {e : En} (h : MgI R A (e :: l) n) : MgI R A l n :=
  ⟨h.asy, h.sa, (List.pairwise_cons.1 h.sl).2, fun x hx => h.from_ x (by simp [hx])⟩
theorem MgI.tail_yes {R : En → En → Prop} {A l : List En} {n : Nat} {e : En} (h : MgI R A (e :: l) n) (he : plE A e < A.length) : n ≤ plE A e ∧ MgI R A l (plE A e + 1) := by
  refine ⟨h.from_ e (by simp) ((plE_lt A e).1 he), h.asy, h.sa, (List.pairwise_cons.1 h.sl).2, fun x hx hA => ?_⟩
  have hx2 := (plE_lt A x).2 hA
  have hr := (List.pairwise_cons.1 h.sl).1 x hx
  have e1 := plE_at he
  have e2 := plE_at hx2
  exact pw_lt h.asy h.sa he hx2 (by rw [e1, e2]; exact hr)
theorem tfilter_all {α : Type} {p : α → Bool} {l : List α} (h : ∀ x ∈ l, p x = true) : l.filter p = l := List.filter_eq_self.2 h
theorem tfilter_none {α : Type} {p : α → Bool} {l : List α} (h : ∀ x ∈ l, p x = false) : l.filter p = [] := by
  rw [List.filter_eq_nil_iff]
  intro x hx
  rw [h x hx]; simp
theorem take_drop_mem {A : List En} {a b : Nat} {x : En} (h : x ∈ (A.take b).drop a) : ∃ i, ∃ hi : i < A.length, a ≤ i ∧ i < b ∧ A[i] = x := by
  obtain ⟨i, hi, rfl⟩ := List.getElem_of_mem h
  simp only [List.length_drop, List.length_take] at hi
  refine ⟨a + i, by omega, by omega, by omega, ?_⟩
  simp
theorem mgF_eq {A l : List En} {n : Nat} {e : En} (hn : n ≤ plE A e) (he : plE A e < A.length) : mgF A (e :: l) n = (A.take (plE A e)).drop n ++ e :: mgF A l (plE A e + 1) := by
  simp only [mgF]
  rw [if_pos he, show max n (plE A e + 1) = plE A e + 1 by omega]
  rw [List.take_add_one, List.getElem?_eq_getElem he, Option.toList_some, plE_at he, List.drop_append]
  have : n - (A.take (plE A e)).length = 0 := by rw [List.length_take]; omega
  rw [this, List.drop_zero, List.append_assoc]
  rfl
theorem mgF_old {R : En → En → Prop} {A : List En} (O : List En) : ∀ (l : List En) (n : Nat), MgI R A l n → (∀ e ∈ l, e ∈ O) → (∀ i (h : i < A.length), n ≤ i → A[i] ∈ O → A[i] ∈ l) → (mgF A l n).filter (inT O) = l := by
  intro l
  induction l with
  | nil =>
    intro n h _ hc
    simp only [mgF]
    refine tfilter_none (fun x hx => ?_)
    rw [inT_not]
    intro hO
    obtain ⟨i, hi, rfl⟩ := List.getElem_of_mem hx
    rw [List.length_drop] at hi
    rw [List.getElem_drop] at hO
    have := hc (n + i) (by omega) (by omega) hO
    simp at this
  | cons e l ih =>
    intro n h hO hc
    by_cases he : plE A e < A.length
    · obtain ⟨h1, h2⟩ := h.tail_yes he
      rw [mgF_eq h1 he, List.filter_append, List.filter_cons, if_pos ((inT_iff O e).2 (hO e (by simp)))]
      rw [ih _ h2 (fun x hx => hO x (by simp [hx]))]
      · rw [tfilter_none, List.nil_append]
        intro x hx
        rw [inT_not]
        intro hxO
        obtain ⟨i, hi, hi1, hi2, rfl⟩ := take_drop_mem hx
        have hm := hc i hi hi1 hxO
        have hrel : A[i] = e ∨ R e A[i] := by
          rcases List.mem_cons.1 hm with hm | hm
          · exact .inl hm
          · exact .inr ((List.pairwise_cons.1 h.sl).1 _ hm)
        rcases hrel with hrel | hrel
        · have hp := (List.pairwise_iff_getElem.1 h.sa) i (plE A e) hi he hi2
          rw [plE_at he, hrel] at hp
          exact h.asy _ _ hp hp
        · have := pw_lt h.asy h.sa he hi (by rw [plE_at he]; exact hrel)
          omega
      · intro i hi hni hAO
        have hm := hc i hi (by omega) hAO
        rcases List.mem_cons.1 hm with hm | hm
        · have hp := (List.pairwise_iff_getElem.1 h.sa) (plE A e) i he hi (by omega)
          rw [plE_at he, hm] at hp
          exact absurd hp (h.asy _ _ hp)
        · exact hm
    · simp only [mgF]
      rw [if_neg he, List.filter_cons, if_pos ((inT_iff O e).2 (hO e (by simp)))]
      rw [ih _ h.tail_no (fun x hx => hO x (by simp [hx]))]
      intro i hi hni hAO
      have hm := hc i hi hni hAO
      rcases List.mem_cons.1 hm with hm | hm
      · exact absurd ((plE_lt A e).2 (hm ▸ List.getElem_mem hi)) he
      · exact hm
theorem mgF_new {R : En → En → Prop} {A : List En} : ∀ (l : List En) (n : Nat), MgI R A l n → (mgF A l n).filter (inT A) = A.drop n := by
  intro l
  induction l with
  | nil =>
    intro n h
    simp only [mgF]
    exact tfilter_all (fun x hx => (inT_iff A x).2 (List.mem_of_mem_drop hx))
  | cons e l ih =>
    intro n h
    by_cases he : plE A e < A.length
    · obtain ⟨h1, h2⟩ := h.tail_yes he
      rw [mgF_eq h1 he, List.filter_append, List.filter_cons, if_pos ((inT_iff A e).2 ((plE_lt A e).1 he)), ih _ h2]
      rw [tfilter_all (fun x hx => (inT_iff A x).2 (List.mem_of_mem_take (List.mem_of_mem_drop hx)))]
      have e1 : A.drop (plE A e) = e :: A.drop (plE A e + 1) := by
        rw [List.drop_eq_getElem_cons he, plE_at he]
      rw [← e1, List.drop_take]
      have e2 : A.drop (plE A e) = (A.drop n).drop (plE A e - n) := by rw [List.drop_drop]; congr 1; omega
      rw [e2, List.take_append_drop]
    · simp only [mgF]
      rw [if_neg he, List.filter_cons, if_neg (by rw [Bool.not_eq_true, inT_not]; exact fun hm => he ((plE_lt A e).2 hm))]
      exact ih _ h.tail_no
theorem mgF_mem {A : List En} : ∀ (l : List En) (n : Nat), ∀ x ∈ mgF A l n, x ∈ l ∨ x ∈ A := by
  intro l
  induction l with
  | nil => intro n x hx; simp only [mgF] at hx; exact .inr (List.mem_of_mem_drop hx)
  | cons e l ih =>
    intro n x hx
    simp only [mgF] at hx
    split at hx
    · rcases List.mem_append.1 hx with hx | hx
      · exact .inr (List.mem_of_mem_take (List.mem_of_mem_drop hx))
      · rcases ih _ x hx with hx | hx
        · exact .inl (by simp [hx])
        · exact .inr hx
    · rcases List.mem_cons.1 hx with rfl | hx
      · exact .inl (by simp)
      · rcases ih _ x hx with hx | hx
        · exact .inl (by simp [hx])
        · exact .inr hx
structure Both (O A M : List En) : Prop where
  old : M.filter (inT O) = O
  now : M.filter (inT A) = A
  mem : ∀ x ∈ M, x ∈ O ∨ x ∈ A
theorem both_of {R : En → En → Prop} {O A : List En} (asy : ∀ a b, R a b → ¬ R b a) (ho : O.Pairwise R) (ha : A.Pairwise R) : Both O A (mgF A O 0) :=
  ⟨mgF_old O O 0 ⟨asy, ha, ho, fun _ _ _ => Nat.zero_le _⟩ (fun _ h => h) (fun _ _ _ h => h), by simpa using mgF_new O 0 ⟨asy, ha, ho, fun _ _ _ => Nat.zero_le _⟩, mgF_mem O 0⟩
theorem Both.len {O A M : List En} (h : Both O A M) : M.length ≤ O.length + A.length := by
  have e : M.length = M.countP (inT O) + M.countP (fun e => !inT O e) := by
    have := List.length_eq_countP_add_countP (inT O) (l := M)
    rw [this]
    congr 1
    refine List.countP_congr (fun x _ => ?_)
    simp
  have e1 : M.countP (inT O) = O.length := by rw [List.countP_eq_length_filter, h.old]
  have e2 : M.countP (fun e => !inT O e) ≤ M.countP (inT A) := by
    refine List.countP_mono_left (fun x hx hn => ?_)
    simp only [Bool.not_eq_true'] at hn
    rcases h.mem x hx with hm | hm
    · exact absurd hm ((inT_not O x).1 hn)
    · exact (inT_iff A x).2 hm
  have e3 : M.countP (inT A) = A.length := by rw [List.countP_eq_length_filter, h.now]
  omega
end Go.Proofs.YtgkiknfpcbcnnaaGreat
namespace Go.Proofs.YtgkiknfpcbcnnaaGreat
open Go.RowKit
set_option maxRecDepth 20000
def doW (l : List En) (w : Wr) : Option (List En) :=
  if w.kd = 1 ∧ 0 ≤ w.pl ∧ w.pl ≤ (l.length : Int) then some (l.take w.pl.toNat ++ w.en :: l.drop w.pl.toNat)
  else if w.kd = 2 ∧ 0 ≤ w.pl ∧ w.pl < (l.length : Int) ∧ enEq w.en enZ = true then some (l.take w.pl.toNat ++ l.drop (w.pl.toNat + 1))
  else none
theorem doW_in (a b : List En) (e : En) : doW (a ++ b) ⟨1, (a.length : Nat), e⟩ = some (a ++ e :: b) := by
  unfold doW
  rw [if_pos ⟨rfl, by simp, by simp only [List.length_append]; omega⟩]
  simp
theorem doW_out (a b : List En) (e : En) : doW (a ++ e :: b) ⟨2, (a.length : Nat), enZ⟩ = some (a ++ b) := by
  unfold doW
  rw [if_neg (by intro h; have := h.1; simp at this), if_pos ⟨rfl, by simp, by simp only [List.length_append, List.length_cons]; omega, enEq_self _⟩]
  simp [List.drop_append]
def Run (P : List En → Prop) : List En → List Wr → List En → Prop
  | l, [], l' => l = l'
  | l, w :: ws, l' => ∃ m, doW l w = some m ∧ P m ∧ Run P m ws l'
theorem Run.app {P : List En → Prop} : ∀ {ws vs : List Wr} {l m k : List En}, Run P l ws m → Run P m vs k → Run P l (ws ++ vs) k := by
  intro ws
  induction ws with
  | nil => intro vs l m k h1 h2; simp only [Run] at h1; subst h1; exact h2
  | cons w ws ih =>
    intro vs l m k h1 h2
    obtain ⟨n, e1, e2, e3⟩ := h1
    exact ⟨n, e1, e2, ih e3 h2⟩
theorem Run.at_ {P : List En → Prop} : ∀ {ws : List Wr} {l k : List En}, P l → Run P l ws k → ∃ T : Nat → List En, T 0 = l ∧ T ws.length = k ∧ (∀ i (h : i < ws.length), doW (T i) ws[i] = some (T (i + 1))) ∧ ∀ i, i ≤ ws.length → P (T i) := by
  intro ws
  induction ws with
  | nil =>
    intro l k hp h
    simp only [Run] at h
    subst h
    exact ⟨fun _ => l, rfl, rfl, fun i h => by simp at h, fun _ _ => hp⟩
  | cons w ws ih =>
    intro l k hp h
    obtain ⟨n, e1, e2, e3⟩ := h
    obtain ⟨T, t1, t2, t3, t4⟩ := ih e2 e3
    refine ⟨fun i => match i with | 0 => l | i + 1 => T i, rfl, t2, ?_, ?_⟩
    · intro i hi
      cases i with
      | zero => simp only [List.getElem_cons_zero]; rw [t1]; exact e1
      | succ i => simp only [List.getElem_cons_succ]; exact t3 i (by simpa using hi)
    · intro i hi
      cases i with
      | zero => exact hp
      | succ i => exact t4 i (by simpa using hi)
def insW (O : List En) : Nat → List En → List Wr
  | _, [] => []
  | i, e :: l => if inT O e then insW O (i + 1) l else ⟨1, i, e⟩ :: insW O (i + 1) l
def delW (A M : List En) : Nat → List Wr
  | 0 => []
  | n + 1 => (match M[n]? with | some e => if inT A e then [] else [⟨2, n, enZ⟩] | none => []) ++ delW A M n
def wrS (O A : List En) : List Wr := insW O 0 (mgF A O 0) ++ delW A (mgF A O 0) (mgF A O 0).length
theorem insW_run {P : List En → Prop} (O : List En) : ∀ (l pre : List En), (∀ a b, pre ++ l = a ++ b → P (a ++ b.filter (inT O))) → Run P (pre ++ l.filter (inT O)) (insW O pre.length l) (pre ++ l) := by
  intro l
  induction l with
  | nil => intro pre _; simp [insW, Run]
  | cons e l ih =>
    intro pre hp
    have hn := ih (pre ++ [e]) (fun a b h => hp a b (by rw [← h]; simp))
    simp only [List.length_append, List.length_singleton, List.append_assoc, List.singleton_append] at hn
    simp only [insW]
    cases he : inT O e
    · simp only [Bool.false_eq_true, if_false]
      rw [List.filter_cons, if_neg (by rw [he]; simp)]
      refine ⟨_, doW_in _ _ _, ?_, hn⟩
      have := hp (pre ++ [e]) l (by simp)
      simpa using this
    · simp only [if_true]
      rw [List.filter_cons, if_pos he]
      exact hn
theorem delW_run {P : List En → Prop} (A M : List En) : ∀ (n : Nat), n ≤ M.length → (∀ a b, M = a ++ b → P (a ++ b.filter (inT A))) → Run P (M.take n ++ (M.drop n).filter (inT A)) (delW A M n) (M.filter (inT A)) := by
  intro n
  induction n with
  | zero => intro _ _; simp [delW, Run]
  | succ n ih =>
    intro hn hp
    have hlt : n < M.length := by omega
    have h1 := ih (by omega) hp
    simp only [delW]
    rw [List.getElem?_eq_getElem hlt]
    have e1 : M.take (n + 1) = M.take n ++ [M[n]] := by rw [List.take_add_one, List.getElem?_eq_getElem hlt]; rfl
    have e2 : M.drop n = M[n] :: M.drop (n + 1) := List.drop_eq_getElem_cons hlt
    rw [e2] at h1
    rw [e1, List.append_assoc, List.singleton_append]
    cases he : inT A M[n]
    · dsimp only
      rw [if_neg (by rw [he]; simp), List.singleton_append]
      rw [List.filter_cons, if_neg (by rw [he]; simp)] at h1
      refine ⟨M.take n ++ (M.drop (n + 1)).filter (inT A), ?_, ?_, h1⟩
      · have := doW_out (M.take n) ((M.drop (n + 1)).filter (inT A)) M[n]
        rw [List.length_take, Nat.min_eq_left (by omega)] at this
        exact this
      · have := hp (M.take n) (M.drop n) (by simp)
        rw [e2, List.filter_cons, if_neg (by rw [he]; simp)] at this
        exact this
    · dsimp only
      rw [if_pos he, List.nil_append]
      rw [List.filter_cons, if_pos he] at h1
      exact h1
theorem find_filter_some {α : Type} {f p : α → Bool} {l : List α} {e : α} (h : l.find? f = some e) (hp : p e = true) : (l.filter p).find? f = some e := by
  induction l with
  | nil => simp at h
  | cons a l ih =>
    rw [List.find?_cons] at h
    cases ha : f a
    · rw [ha] at h
      simp only at h
      rw [List.filter_cons]
      split
      · rw [List.find?_cons, ha]; exact ih h
      · exact ih h
    · rw [ha] at h
      simp only [Option.some.injEq] at h
      subst h
      rw [List.filter_cons, if_pos hp, List.find?_cons, ha]
theorem find_filter_none {α : Type} {f p : α → Bool} {l : List α} (h : l.find? f = none) : (l.filter p).find? f = none := by
  rw [List.find?_eq_none] at h ⊢
  intro x hx
  exact h x (List.mem_filter.1 hx).1
theorem Both.first {O A M : List En} (h : Both O A M) (f : En → Bool) (a b : List En) (hM : M = a ++ b) :
    ((a ++ b.filter (inT O)).find? f = O.find? f ∨ (a ++ b.filter (inT O)).find? f = A.find? f) ∧ ((a ++ b.filter (inT A)).find? f = O.find? f ∨ (a ++ b.filter (inT A)).find? f = A.find? f) := by
  have ho := h.old
  have hn := h.now
  rw [hM, List.filter_append] at ho hn
  cases hf : a.find? f with
  | some e =>
    have e1 : ∀ x : List En, (a ++ x).find? f = some e := fun x => by rw [List.find?_append, hf]; rfl
    rw [e1, e1]
    have hm : e ∈ M := by rw [hM]; exact List.mem_append_left _ (List.mem_of_find?_eq_some hf)
    rcases h.mem e hm with hx | hx
    · have : O.find? f = some e := by rw [← ho, List.find?_append, find_filter_some hf ((inT_iff O e).2 hx)]; rfl
      exact ⟨.inl this.symm, .inl this.symm⟩
    · have : A.find? f = some e := by rw [← hn, List.find?_append, find_filter_some hf ((inT_iff A e).2 hx)]; rfl
      exact ⟨.inr this.symm, .inr this.symm⟩
  | none =>
    have e1 : ∀ x : List En, (a ++ x).find? f = x.find? f := fun x => by rw [List.find?_append, hf]; rfl
    rw [e1, e1]
    have e2 : O.find? f = (b.filter (inT O)).find? f := by
      have := congrArg (List.find? f) ho.symm
      rw [List.find?_append, find_filter_none hf] at this
      exact this
    have e3 : A.find? f = (b.filter (inT A)).find? f := by
      have := congrArg (List.find? f) hn.symm
      rw [List.find?_append, find_filter_none hf] at this
      exact this
    exact ⟨.inl e2.symm, .inr e3.symm⟩
theorem insW_len (O : List En) : ∀ (l : List En) (i : Nat), (insW O i l).length = l.countP (fun e => !inT O e) := by
  intro l
  induction l with
  | nil => intro i; rfl
  | cons e l ih =>
    intro i
    simp only [insW, List.countP_cons]
    cases he : inT O e
    · simp [ih]
    · simp [ih]
theorem delW_len (A M : List En) : ∀ n, n ≤ M.length → (delW A M n).length = (M.take n).countP (fun e => !inT A e) := by
  intro n
  induction n with
  | zero => intro _; rfl
  | succ n ih =>
    intro hn
    have hlt : n < M.length := by omega
    simp only [delW]
    rw [List.getElem?_eq_getElem hlt, List.length_append, ih (by omega), List.take_add_one, List.getElem?_eq_getElem hlt, List.countP_append]
    cases he : inT A M[n]
    · simp [he]; omega
    · simp [he]
theorem Both.lack {O A M : List En} (h : Both O A M) : M.countP (fun e => !inT O e) = lacks A O ∧ M.countP (fun e => !inT A e) = lacks O A := by
  constructor
  · unfold lacks
    have e : A.countP (fun e => !inT O e) = (M.filter (inT A)).countP (fun e => !inT O e) := by rw [h.now]
    rw [e, List.countP_filter]
    refine List.countP_congr (fun x hx => ?_)
    simp only [Bool.and_eq_true]
    constructor
    · intro hn
      refine ⟨hn, ?_⟩
      simp only [Bool.not_eq_true'] at hn
      rcases h.mem x hx with hm | hm
      · exact absurd hm ((inT_not O x).1 hn)
      · exact (inT_iff A x).2 hm
    · exact fun hn => hn.1
  · unfold lacks
    have e : O.countP (fun e => !inT A e) = (M.filter (inT O)).countP (fun e => !inT A e) := by rw [h.old]
    rw [e, List.countP_filter]
    refine List.countP_congr (fun x hx => ?_)
    simp only [Bool.and_eq_true]
    constructor
    · intro hn
      refine ⟨hn, ?_⟩
      simp only [Bool.not_eq_true'] at hn
      rcases h.mem x hx with hm | hm
      · exact (inT_iff O x).2 hm
      · exact absurd hm ((inT_not A x).1 hn)
    · exact fun hn => hn.1
structure WrOK (O A : List En) (ws : List Wr) : Prop where
  num : ws.length = lacks O A + lacks A O
  small : ws.length ≤ 256
  ex : ∃ T : Nat → List En, T 0 = O ∧ T ws.length = A ∧ (∀ i (h : i < ws.length), doW (T i) ws[i] = some (T (i + 1))) ∧ ∀ i, i ≤ ws.length → (T i).length ≤ 256 ∧ ∀ f : En → Bool, (T i).find? f = O.find? f ∨ (T i).find? f = A.find? f
theorem wrS_ok {R : En → En → Prop} {O A : List En} (asy : ∀ a b, R a b → ¬ R b a) (ho : O.Pairwise R) (ha : A.Pairwise R) (h1 : O.length ≤ 128) (h2 : A.length ≤ 128) : WrOK O A (wrS O A) := by
  have hb := both_of asy ho ha
  have hl := hb.len
  have hk := hb.lack
  unfold wrS
  generalize mgF A O 0 = M at *
  have hnum : (insW O 0 M ++ delW A M M.length).length = lacks O A + lacks A O := by
    rw [List.length_append, insW_len, delW_len A M _ (Nat.le_refl _), List.take_length, hk.1, hk.2, Nat.add_comm]
  have c1 : lacks O A ≤ O.length := List.countP_le_length
  have c2 : lacks A O ≤ A.length := List.countP_le_length
  refine ⟨hnum, by omega, ?_⟩
  let P : List En → Prop := fun T => T.length ≤ 256 ∧ ∀ f : En → Bool, T.find? f = O.find? f ∨ T.find? f = A.find? f
  have p1 : ∀ a b, M = a ++ b → P (a ++ b.filter (inT O)) := fun a b hM => by
    refine ⟨?_, fun f => (hb.first f a b hM).1⟩
    have : (b.filter (inT O)).length ≤ b.length := List.length_filter_le _ _
    rw [hM] at hl
    simp only [List.length_append] at hl ⊢
    omega
  have p2 : ∀ a b, M = a ++ b → P (a ++ b.filter (inT A)) := fun a b hM => by
    refine ⟨?_, fun f => (hb.first f a b hM).2⟩
    have : (b.filter (inT A)).length ≤ b.length := List.length_filter_le _ _
    rw [hM] at hl
    simp only [List.length_append] at hl ⊢
    omega
  have r1 := insW_run (P := P) O M [] (fun a b h => p1 a b (by simpa using h))
  have r2 := delW_run (P := P) A M M.length (Nat.le_refl _) p2
  simp only [List.nil_append, List.length_nil] at r1
  simp only [List.take_length, List.drop_length, List.filter_nil, List.append_nil] at r2
  have r := r1.app r2
  rw [hb.old, hb.now] at r
  exact Run.at_ ⟨by omega, fun f => .inl rfl⟩ r
end Go.Proofs.YtgkiknfpcbcnnaaGreat
namespace Go.Proofs.YtgkiknfpcbcnnaaGreat
open Go.RowKit
set_option maxRecDepth 20000
theorem nS_bd' (ps : List Pt) : nS ps ≤ 4294967296 := by
  obtain ⟨a, b, c⟩ := lens ps
  exact (mul_bd a b c).2
def st1 (c : Cf) (rts : List Rt) (last : ByteArray) (tot : Int) (full : Bool) (r : Rl) : Int := if holdS c rts r then (if r.tx = last then 1 else (if full || (decide (c.bu < (nS (dS r.tx) : Int)) || decide (c.cp < tot + (nS (dS r.tx) : Int))) then 2 else 3)) else 0
structure SegI (c : Cf) (rts : List Rt) (M : List Rl) (S : List Int) (i : Nat) (last : ByteArray) (tot : Int) (full : Bool) : Prop where
  drop : S.drop i = stF c rts last tot full (M.drop i)
  last : (last = ⟨#[]⟩ ∧ ∀ k (h : k < S.length), k < i → S[k] ≤ 1) ∨ ∃ k0, ∃ (h0 : k0 < M.length) (h1 : k0 < S.length), k0 < i ∧ 1 < S[k0] ∧ M[k0].tx = last ∧ ∀ k (h : k < S.length), k0 < k → k < i → S[k] ≤ 1
  t0 : 0 ≤ tot
  tb : tot ≤ (i : Int) * 4294967296
theorem SegI.zero (c : Cf) (rts : List Rt) (M : List Rl) : SegI c rts M (stF c rts ⟨#[]⟩ 0 false M) 0 ⟨#[]⟩ 0 false :=
  ⟨by simp, .inl ⟨rfl, fun k _ h => absurd h (by omega)⟩, by omega, by omega⟩
theorem erl_le {a b d : Rl} (h1 : erl a b = true) (h2 : erl b d = true) (he : kyR a = kyR d) : kyR a = kyR b := by
  rcases (erl_iff a b).1 h1 with p | p
  · rcases (erl_iff b d).1 h2 with q | q
    · rw [← he] at q
      have := cmpL_anti (kyR a) (kyR b)
      omega
    · rw [he, q.1]
  · exact p.1
theorem same_between {M : List Rl} (hs : M.Pairwise fun x y => erl x y = true) (hd : ∀ q ∈ M, (decS q.tx).isSome = true) {k m i : Nat} (hi : i < M.length) (hkm : k ≤ m) (hmi : m < i) (h : (M[k]'(by omega)).tx = M[i].tx) : (M[m]'(by omega)).tx = M[i].tx := by
  by_cases hkm' : k = m
  · subst hkm'; exact h
  · have e1 := List.pairwise_iff_getElem.1 hs k m (by omega) (by omega) (by omega)
    have e2 := List.pairwise_iff_getElem.1 hs m i (by omega) hi hmi
    have hk : kyR (M[k]'(by omega)) = kyR M[i] := by unfold kyR; rw [h]
    have := erl_le e1 e2 hk
    rw [← h]
    exact (kyR_inj (hd _ (List.getElem_mem _)) (hd _ (List.getElem_mem _)) this).symm
section
variable {c : Cf} {rts : List Rt} {M : List Rl} {S : List Int} {i : Nat} {last : ByteArray} {tot : Int} {full : Bool}
theorem SegI.at_ (h : SegI c rts M S i last tot full) (hi : i < M.length) (hs : i < S.length) : S[i] = st1 c rts last tot full M[i] := by
  have e := h.drop
  rw [List.drop_eq_getElem_cons hs, List.drop_eq_getElem_cons hi] at e
  simp only [stF] at e
  unfold st1
  split at e
  · rename_i hh
    rw [if_pos hh]
    split at e
    · rename_i hl; rw [if_pos hl]; exact (List.cons.inj e).1
    · rename_i hl; rw [if_neg hl]; exact (List.cons.inj e).1
  · rename_i hh
    rw [if_neg hh]; exact (List.cons.inj e).1
theorem SegI.taken (h : SegI c rts M S i last tot full) (hi : i < M.length) (hp : M.Pairwise fun x y => erl x y = true) (hd : ∀ q ∈ M, (decS q.tx).isSome = true) : (∃ k, ∃ (h1 : k < M.length) (h2 : k < S.length), k < i ∧ M[k].tx = M[i].tx ∧ 1 < S[k]) ↔ M[i].tx = last := by
  rcases h.last with ⟨hl, hn⟩ | ⟨k0, h0, h1, hlt, hgt, hl, hn⟩
  · constructor
    · rintro ⟨k, h1, h2, hk, _, hg⟩
      have := hn k h2 hk
      omega
    · intro e
      have hq := hd _ (List.getElem_mem hi)
      rw [e, hl] at hq
      exact absurd hq (by decide)
  · constructor
    · rintro ⟨k, h2, h3, hk, he, hg⟩
      have hk0 : k ≤ k0 := by
        refine Nat.le_of_not_lt fun hc => ?_
        have := hn k h3 hc hk
        omega
      rw [← hl]
      exact (same_between hp hd hi hk0 hlt he).symm
    · intro e
      exact ⟨k0, h0, h1, hlt, by rw [hl, e], hgt⟩
theorem SegI.stay (h : SegI c rts M S i last tot full) (hi : i < M.length) (hs : i < S.length) (hle : S[i] ≤ 1) : SegI c rts M S (i + 1) last tot full := by
  have ha := h.at_ hi hs
  have e := h.drop
  rw [List.drop_eq_getElem_cons hs, List.drop_eq_getElem_cons hi] at e
  simp only [stF] at e
  have hdrop : S.drop (i + 1) = stF c rts last tot full (M.drop (i + 1)) := by
    split at e
    · rename_i hh
      split at e
      · exact (List.cons.inj e).2
      · rename_i hl
        have := (List.cons.inj e).1
        split at this <;> omega
    · exact (List.cons.inj e).2
  refine ⟨hdrop, ?_, h.t0, by have := h.tb; omega⟩
  rcases h.last with ⟨hl, hn⟩ | ⟨k0, h0, h1, hlt, hgt, hl, hn⟩
  · refine .inl ⟨hl, fun k hk hlt => ?_⟩
    by_cases he : k = i
    · subst he; exact hle
    · exact hn k hk (by omega)
  · refine .inr ⟨k0, h0, h1, by omega, hgt, hl, fun k hk hlo hlt => ?_⟩
    by_cases he : k = i
    · subst he; exact hle
    · exact hn k hk hlo (by omega)
theorem SegI.go (h : SegI c rts M S i last tot full) (hi : i < M.length) (hs : i < S.length) (hgt : 1 < S[i]) : M[i].tx ≠ last ∧ (S[i] = 3 ↔ (full || (decide (c.bu < (nS (dS M[i].tx) : Int)) || decide (c.cp < tot + (nS (dS M[i].tx) : Int)))) = false) ∧ S[i] ≤ 3 ∧ SegI c rts M S (i + 1) M[i].tx (tot + (nS (dS M[i].tx) : Int)) (full || (decide (c.bu < (nS (dS M[i].tx) : Int)) || decide (c.cp < tot + (nS (dS M[i].tx) : Int)))) := by
  have e := h.drop
  rw [List.drop_eq_getElem_cons hs, List.drop_eq_getElem_cons hi] at e
  simp only [stF] at e
  split at e
  · rename_i hh
    split at e
    · have := (List.cons.inj e).1; omega
    · rename_i hl
      obtain ⟨e1, e2⟩ := List.cons.inj e
      refine ⟨hl, ?_, ?_, e2, .inr ⟨i, hi, hs, by omega, hgt, rfl, fun k _ h1 h2 => absurd h1 (by omega)⟩, by have := h.t0; omega, ?_⟩
      · rw [e1]
        cases full || (decide (c.bu < (nS (dS M[i].tx) : Int)) || decide (c.cp < tot + (nS (dS M[i].tx) : Int)))
        · simp
        · simp
      · rw [e1]; split <;> omega
      · have := nS_bd' (dS M[i].tx)
        have := h.tb
        omega
  · have := (List.cons.inj e).1; omega
end
end Go.Proofs.YtgkiknfpcbcnnaaGreat
namespace Go.Proofs.YtgkiknfpcbcnnaaGreat
open Go.RowKit
set_option maxRecDepth 20000
theorem covS_nodup (f : Nat → Bool) : ∀ (n : Nat) (pre : List UInt8) (x : Nat), (covS f n pre x).Nodup := by
  intro n
  induction n with
  | zero => intro pre x; simp only [covS]; split <;> simp
  | succ n ih =>
    intro pre x
    simp only [covS]
    split
    · split
      · rw [List.nodup_append]
        refine ⟨ih _ _, ih _ _, ?_⟩
        intro a ha b hb he
        subst he
        obtain ⟨r, h1, _⟩ := covS_pre f n _ _ a ha
        obtain ⟨q, h2, _⟩ := covS_pre f n _ _ a hb
        rw [h1, List.append_assoc, List.append_assoc] at h2
        have := List.append_cancel_left h2
        simp at this
      · simp
    · simp
theorem blkS_nodup (k : Int) : ∀ ps : List Pt, (blkS k ps).Nodup := by
  intro ps
  induction ps with
  | nil => simp [blkS]
  | cons p r ih =>
    simp only [blkS]
    split
    · unfold blkP
      split
      · simp
      · exact covS_nodup _ _ _ _
    · exact ih
theorem app_inj {a b c d : List UInt8} (h : a ++ b = c ++ d) (hl : a.length = c.length) : a = c ∧ b = d := List.append_inj h hl
theorem cubS_nodup {ps : List Pt} (h : ∀ p ∈ ps, isP p = true) : (cubS ps).Nodup := by
  unfold cubS
  generalize (blkS 1 ps).headD [] ++ (blkS 2 ps).headD [] = hd
  have w3 := blkS_w 3 ps h
  have w4 := blkS_w 4 ps h
  have w5 := blkS_w 5 ps h
  have n3 := blkS_nodup 3 ps
  have n4 := blkS_nodup 4 ps
  have n5 := blkS_nodup 5 ps
  have inj : ∀ {a a' b b' c c' : List UInt8}, a.length = a'.length → b.length = b'.length → c.length = c'.length → hd ++ a ++ b ++ c ++ [endC ps] = hd ++ a' ++ b' ++ c' ++ [endC ps] → a = a' ∧ b = b' ∧ c = c' := by
    intro a a' b b' c c' ha hb hc he
    have e1 := (List.append_cancel_right he)
    rw [List.append_assoc, List.append_assoc, List.append_assoc, List.append_assoc] at e1
    have e2 := List.append_cancel_left e1
    obtain ⟨q1, q2⟩ := app_inj e2 ha
    obtain ⟨q3, q4⟩ := app_inj q2 hb
    exact ⟨q1, q3, q4⟩
  unfold List.Nodup at *
  rw [List.pairwise_flatMap]
  refine ⟨fun a ha => ?_, n3.imp_of_mem ?_⟩
  · rw [List.pairwise_flatMap]
    refine ⟨fun b hb => ?_, n4.imp_of_mem ?_⟩
    · rw [List.pairwise_map]
      refine n5.imp_of_mem ?_
      intro c c' hc hc' hne he
      exact hne (inj rfl rfl ((w5 c hc).trans (w5 c' hc').symm) he).2.2
    · intro b b' hb hb' hne x hx y hy he
      obtain ⟨c, hc, rfl⟩ := List.mem_map.1 hx
      obtain ⟨c', hc', rfl⟩ := List.mem_map.1 hy
      exact hne (inj rfl ((w4 b hb).trans (w4 b' hb').symm) ((w5 c hc).trans (w5 c' hc').symm) he).2.1
  · intro a a' ha ha' hne x hx y hy he
    obtain ⟨b, hb, hx⟩ := List.mem_flatMap.1 hx
    obtain ⟨b', hb', hy⟩ := List.mem_flatMap.1 hy
    obtain ⟨c, hc, rfl⟩ := List.mem_map.1 hx
    obtain ⟨c', hc', rfl⟩ := List.mem_map.1 hy
    exact hne (inj ((w3 a ha).trans (w3 a' ha').symm) ((w4 b hb).trans (w4 b' hb').symm) ((w5 c hc).trans (w5 c' hc').symm) he).1
def cbB (s : ByteArray) : List ByteArray := (cbL s).map fun l => ⟨l.toArray⟩
theorem cbB_bl (s : ByteArray) : (cbB s).map bl = cbL s := by
  unfold cbB
  rw [List.map_map]
  have : (bl ∘ fun l : List UInt8 => (⟨l.toArray⟩ : ByteArray)) = id := by funext l; simp [bl]
  rw [this, List.map_id]
theorem cbB_of {s : ByteArray} {L : List ByteArray} (h : L.map bl = cbL s) : L = cbB s := by
  have e : L.map bl = (cbB s).map bl := h.trans (cbB_bl s).symm
  exact (List.map_inj_right (fun x y hxy => bl_inj hxy)).1 e
theorem cbL_nodup (s : ByteArray) : (cbL s).Nodup := by
  unfold cbL
  split
  · exact cubS_nodup (mem_dS s)
  · simp
theorem cbB_nodup (s : ByteArray) : (cbB s).Nodup := by
  unfold cbB
  unfold List.Nodup
  rw [List.pairwise_map]
  refine (cbL_nodup s).imp ?_
  intro a b hne he
  apply hne
  have := congrArg bl he
  simpa [bl] using this
theorem cubS_len (ps : List Pt) : (cubS ps).length = nS ps := by rw [cubS_range]; simp
theorem cbB_len {s : ByteArray} (hd : (decS s).isSome = true) (h : nS (dS s) ≤ 256) : (cbB s).length = nS (dS s) := by
  unfold cbB cbL
  rw [List.length_map, if_pos (by rw [hd, decide_eq_true h]; rfl), cubS_len]
def enOf (x : Rl × Int) : List En := if x.2 = 3 then (cbB x.1.tx).map fun b => ⟨b, x.1.ac, x.1.tx⟩ else []
def tabL (l : List (Rl × Int)) : List En := l.flatMap enOf
def tabS (st : Gs) : List En := tabL (stats st)
theorem tabL_len (c : Cf) (rts : List Rt) (hb : c.bu ≤ 256) : ∀ (l : List Rl) (last : ByteArray) (tot : Int) (full : Bool), (∀ r ∈ l, (decS r.tx).isSome = true) → (full = true → (tabL (l.zip (stF c rts last tot full l))).length = 0) ∧ ((tabL (l.zip (stF c rts last tot full l))).length = 0 ∨ tot + ((tabL (l.zip (stF c rts last tot full l))).length : Int) ≤ c.cp) := by
  intro l
  induction l with
  | nil => intro last tot full _; exact ⟨fun _ => rfl, .inl rfl⟩
  | cons r l ih =>
    intro last tot full hd
    have ih' := fun last tot full => ih last tot full (fun q hq => hd q (by simp [hq]))
    have hdr := hd r (by simp)
    simp only [stF]
    split
    · split
      · have := ih' last tot full
        simpa [tabL, enOf] using this
      · cases hx : (full || (decide (c.bu < (nS (dS r.tx) : Int)) || decide (c.cp < tot + (nS (dS r.tx) : Int))))
        · have hf : full = false := by cases full <;> simp_all
          subst hf
          simp only [Bool.false_or, Bool.or_eq_false_iff, decide_eq_false_iff_not] at hx
          have hn : nS (dS r.tx) ≤ 256 := by omega
          have hl := cbB_len hdr hn
          have := (ih' r.tx (tot + (nS (dS r.tx) : Int)) false).2
          simp only [tabL, enOf, Bool.false_eq_true, if_false, List.zip_cons_cons, List.flatMap_cons, if_true, List.length_append, List.length_map, hl, false_imp_iff, true_and] at this ⊢
          omega
        · have := (ih' r.tx (tot + (nS (dS r.tx) : Int)) true).1 rfl
          have e : (tabL ((r :: l).zip ((if true = true then (2 : Int) else 3) :: stF c rts r.tx (tot + (nS (dS r.tx) : Int)) true l))).length = 0 := by
            simpa [tabL, enOf] using this
          exact ⟨fun _ => e, .inl e⟩
    · have := ih' last tot full
      simpa [tabL, enOf] using this
theorem cf_bd {c : Cf} (h : cfOK c = true) : 1 ≤ c.cp ∧ c.cp ≤ 128 ∧ 1 ≤ c.bu ∧ c.bu ≤ 64 := by
  unfold cfOK isN at h
  simp only [Bool.and_eq_true, decide_eq_true_eq] at h
  omega
theorem tabS_len {st : Gs} (h : GsOK st) : (tabS st).length ≤ 128 := by
  have hc := cf_bd h.c
  have := (tabL_len st.c st.rts (by omega) (sortR st.rls) ⟨#[]⟩ 0 false (fun r hr => (h.rl r ((sortR_perm _).mem_iff.1 hr)).2.1)).2
  unfold tabS stats
  omega
def enR (a b : En) : Prop := cmpL (keyR (dS a.tx)) (keyR (dS b.tx)) < 0 ∨ (a.tx = b.tx ∧ ∃ i j : Nat, i < j ∧ (cbB a.tx)[i]? = some a.bt ∧ (cbB a.tx)[j]? = some b.bt)
theorem enR_asy (a b : En) (h : enR a b) : ¬ enR b a := by
  intro k
  rcases h with h | ⟨h, i, j, hij, h1, h2⟩ <;> rcases k with k | ⟨k, i', j', hij', k1, k2⟩
  · have := cmpL_anti (keyR (dS a.tx)) (keyR (dS b.tx)); omega
  · rw [k, cmpL_self] at h; omega
  · rw [h, cmpL_self] at k; omega
  · rw [← h] at k1 k2
    have hn := cbB_nodup a.tx
    have e1 : i = j' := (List.getElem?_inj (List.getElem?_eq_some_iff.1 h1).1 hn).1 (h1.trans k2.symm)
    have e2 : j = i' := (List.getElem?_inj (List.getElem?_eq_some_iff.1 h2).1 hn).1 (h2.trans k1.symm)
    omega
theorem SegI.ex (c : Cf) (rts : List Rt) (M : List Rl) : ∀ j, j ≤ M.length → ∃ last tot full, SegI c rts M (stF c rts ⟨#[]⟩ 0 false M) j last tot full := by
  intro j
  induction j with
  | zero => intro _; exact ⟨_, _, _, SegI.zero c rts M⟩
  | succ j ih =>
    intro hj
    obtain ⟨last, tot, full, h⟩ := ih (by omega)
    have hs : j < (stF c rts ⟨#[]⟩ 0 false M).length := by rw [stF_len]; omega
    by_cases hle : (stF c rts ⟨#[]⟩ 0 false M)[j] ≤ 1
    · exact ⟨_, _, _, h.stay (by omega) hs hle⟩
    · exact ⟨_, _, _, (h.go (by omega) hs (by omega)).2.2.2⟩
theorem stF_once (c : Cf) (rts : List Rt) {M : List Rl} (hp : M.Pairwise fun x y => erl x y = true) (hd : ∀ q ∈ M, (decS q.tx).isSome = true) {i j : Nat} (hij : i < j) (hj : j < M.length) (hsi : i < (stF c rts ⟨#[]⟩ 0 false M).length) (hsj : j < (stF c rts ⟨#[]⟩ 0 false M).length) (h1 : 1 < (stF c rts ⟨#[]⟩ 0 false M)[i]) (h2 : (M[i]'(by omega)).tx = M[j].tx) : (stF c rts ⟨#[]⟩ 0 false M)[j] ≤ 1 := by
  obtain ⟨last, tot, full, h⟩ := SegI.ex c rts M j (by omega)
  have hl := (h.taken hj hp hd).1 ⟨i, by omega, hsi, hij, h2, h1⟩
  rw [h.at_ hj hsj]
  unfold st1
  rw [if_pos hl]
  split <;> omega
theorem tabS_sorted {st : Gs} (h : Tel st.rls) : (tabS st).Pairwise enR := by
  have hp := sortR_sorted h
  have hd : ∀ q ∈ sortR st.rls, (decS q.tx).isSome = true := fun q hq => h.1 q ((sortR_perm _).mem_iff.1 hq)
  unfold tabS tabL
  rw [List.pairwise_flatMap]
  constructor
  · intro x _
    unfold enOf
    split
    · rw [List.pairwise_map, List.pairwise_iff_getElem]
      intro i j hi hj hij
      exact .inr ⟨rfl, i, j, hij, List.getElem?_eq_getElem hi, List.getElem?_eq_getElem hj⟩
    · exact List.Pairwise.nil
  · rw [List.pairwise_iff_getElem]
    intro i j hi hj hij a ha b hb
    unfold stats at hi hj ha hb
    have hl : ∀ k, k < ((sortR st.rls).zip (stF st.c st.rts ⟨#[]⟩ 0 false (sortR st.rls))).length → k < (sortR st.rls).length ∧ k < (stF st.c st.rts ⟨#[]⟩ 0 false (sortR st.rls)).length := fun k hk => by rw [List.length_zip] at hk; omega
    obtain ⟨i1, i2⟩ := hl i hi
    obtain ⟨j1, j2⟩ := hl j hj
    simp only [List.getElem_zip] at ha hb
    unfold enOf at ha hb
    split at ha
    · rename_i e1
      split at hb
      · rename_i e2
        obtain ⟨x, _, rfl⟩ := List.mem_map.1 ha
        obtain ⟨y, _, rfl⟩ := List.mem_map.1 hb
        rcases (erl_iff _ _).1 (List.pairwise_iff_getElem.1 hp i j i1 j1 hij) with hk | hk
        · exact .inl hk
        · have ht := kyR_inj (hd _ (List.getElem_mem i1)) (hd _ (List.getElem_mem j1)) hk.1
          have := stF_once st.c st.rts hp hd hij j1 i2 j2 (by simp only at e1; omega) ht
          simp only at e2
          omega
      · simp at hb
    · simp at ha
theorem wrS_tab {s t : Gs} (hs : GsOK s) (ht : GsOK t) : WrOK (tabS s) (tabS t) (wrS (tabS s) (tabS t)) :=
  wrS_ok enR_asy (tabS_sorted hs.tel) (tabS_sorted ht.tel) (tabS_len hs) (tabS_len ht)
theorem Sim.tabS {s t : Gs} (h : Sim s t) (ht : Tel s.rls) : tabS s = tabS t := by
  unfold Proofs.YtgkiknfpcbcnnaaGreat.tabS; rw [h.stats ht]
end Go.Proofs.YtgkiknfpcbcnnaaGreat
namespace Go.Proofs.YtgkiknfpcbcnnaaGreat
open Go.RowKit
set_option maxRecDepth 20000
theorem infoEntry : (Tryz.prog.info? 63).map (fun i => (i.zero, i.size, i.bytes)) = some (some (.agg #[.string ⟨#[]⟩, .int .i64 0, .string ⟨#[]⟩]), 3, 40) := by kernel_rfl
theorem infoWrite : (Tryz.prog.info? 66).map (fun i => (i.zero, i.size, i.bytes)) = some (some (.agg #[.int .i64 0, .int .i64 0, .string ⟨#[]⟩, .int .i64 0, .string ⟨#[]⟩]), 5, 56) := by kernel_rfl
def enC (e : En) : List Value := [.string e.bt, .int .i64 e.ac, .string e.tx]
def enCs (l : List En) : List Value := l.flatMap enC
def wrC (x : Wr) : List Value := [.int .i64 x.kd, .int .i64 x.pl, .string x.en.bt, .int .i64 x.en.ac, .string x.en.tx]
def wrCs (l : List Wr) : List Value := l.flatMap wrC
def ERow (w : World) (B : Nat) (v : Value) (l : List En) : Prop := w.ownsRow B 63 3 v l.length (enCs l)
def WRow (w : World) (B : Nat) (v : Value) (l : List Wr) : Prop := w.ownsRow B 66 5 v l.length (wrCs l)
theorem ERow.nil (w : World) (B : Nat) : ERow w B (.slice none 0 0) [] := World.ownsRow_nil _ _ _ _
theorem WRow.nil (w : World) (B : Nat) : WRow w B (.slice none 0 0) [] := World.ownsRow_nil _ _ _ _
theorem ERow.snoc {w : World} {B : Nat} {v : Value} {l : List En} {x : En} (h : w.ownsRow B 63 3 v (l.length + 1) (enCs l ++ enC x)) : ERow w B v (l ++ [x]) := by
  have e : enCs (l ++ [x]) = enCs l ++ enC x := by simp [enCs]
  unfold ERow; rw [e, List.length_append]; exact h
theorem WRow.snoc {w : World} {B : Nat} {v : Value} {l : List Wr} {x : Wr} (h : w.ownsRow B 66 5 v (l.length + 1) (wrCs l ++ wrC x)) : WRow w B v (l ++ [x]) := by
  have e : wrCs (l ++ [x]) = wrCs l ++ wrC x := by simp [wrCs]
  unfold WRow; rw [e, List.length_append]; exact h
theorem enC_one (x : En) : ∀ u ∈ enC x, u.oneCell' = true := by
  intro u hu
  simp only [enC, List.mem_cons, List.not_mem_nil, or_false] at hu
  rcases hu with rfl | rfl | rfl <;> rfl
theorem wrC_one (x : Wr) : ∀ u ∈ wrC x, u.oneCell' = true := by
  intro u hu
  simp only [wrC, List.mem_cons, List.not_mem_nil, or_false] at hu
  rcases hu with rfl | rfl | rfl | rfl | rfl <;> rfl
theorem enCs_get : ∀ (l : List En) (i : Nat) (h : i < l.length), (enCs l)[i * 3]? = some (.string l[i].bt) ∧ (enCs l)[i * 3 + 1]? = some (.int .i64 l[i].ac) ∧ (enCs l)[i * 3 + 2]? = some (.string l[i].tx) := by
  intro l
  induction l with
  | nil => intro i h; simp at h
  | cons a l ih =>
    intro i h
    have e : enCs (a :: l) = .string a.bt :: .int .i64 a.ac :: .string a.tx :: enCs l := rfl
    rw [e]
    cases i with
    | zero => exact ⟨rfl, rfl, rfl⟩
    | succ i =>
      have e1 : (i + 1) * 3 = i * 3 + 1 + 1 + 1 := by omega
      rw [e1]
      simp only [List.getElem?_cons_succ, List.getElem_cons_succ]
      exact ih i (by simpa using h)
theorem wrCs_get : ∀ (l : List Wr) (i : Nat) (h : i < l.length), (wrCs l)[i * 5]? = some (.int .i64 l[i].kd) ∧ (wrCs l)[i * 5 + 1]? = some (.int .i64 l[i].pl) ∧ (wrCs l)[i * 5 + 2]? = some (.string l[i].en.bt) ∧ (wrCs l)[i * 5 + 3]? = some (.int .i64 l[i].en.ac) ∧ (wrCs l)[i * 5 + 4]? = some (.string l[i].en.tx) := by
  intro l
  induction l with
  | nil => intro i h; simp at h
  | cons a l ih =>
    intro i h
    have e : wrCs (a :: l) = .int .i64 a.kd :: .int .i64 a.pl :: .string a.en.bt :: .int .i64 a.en.ac :: .string a.en.tx :: wrCs l := rfl
    rw [e]
    cases i with
    | zero => exact ⟨rfl, rfl, rfl, rfl, rfl⟩
    | succ i =>
      have e1 : (i + 1) * 5 = i * 5 + 1 + 1 + 1 + 1 + 1 := by omega
      rw [e1]
      simp only [List.getElem?_cons_succ, List.getElem_cons_succ]
      exact ih i (by simpa using h)
theorem ERow.get {w : World} {B : Nat} {ao : Option Addr} {n c : Nat} {L : List En} (h : ERow w B (.slice ao n c) L) (hl : 0 < L.length) : ∃ g, ao = some ⟨g, 0, none⟩ ∧ g < w.heap.size ∧ ∀ i (hi : i < L.length), w.cell? ⟨g, i * 3, none⟩ = some (.string L[i].bt) ∧ w.cell? ⟨g, i * 3 + 1, none⟩ = some (.int .i64 L[i].ac) ∧ w.cell? ⟨g, i * 3 + 2, none⟩ = some (.string L[i].tx) := by
  rcases h.2 with ⟨_, h0⟩ | ⟨g, c', cur, hv, hg, hh, _⟩
  · omega
  · simp only [Value.slice.injEq] at hv
    refine ⟨g, hv.1, lt_of_block hh, fun i hi => ?_⟩
    obtain ⟨e0, e1, e2⟩ := enCs_get L i hi
    have k := fun j u hh => h.cells (g := g) (by rw [hv.1]; rfl) j u hh
    have c0 := k _ _ e0
    have c1 := k _ _ e1
    have c2 := k _ _ e2
    rw [add0, Nat.zero_add] at c0 c1 c2
    exact ⟨c0, c1, c2⟩
theorem WRow.get {w : World} {B : Nat} {ao : Option Addr} {n c : Nat} {L : List Wr} (h : WRow w B (.slice ao n c) L) (hl : 0 < L.length) : ∃ g, ao = some ⟨g, 0, none⟩ ∧ g < w.heap.size ∧ ∀ i (hi : i < L.length), w.cell? ⟨g, i * 5, none⟩ = some (.int .i64 L[i].kd) ∧ w.cell? ⟨g, i * 5 + 1, none⟩ = some (.int .i64 L[i].pl) ∧ w.cell? ⟨g, i * 5 + 2, none⟩ = some (.string L[i].en.bt) ∧ w.cell? ⟨g, i * 5 + 3, none⟩ = some (.int .i64 L[i].en.ac) ∧ w.cell? ⟨g, i * 5 + 4, none⟩ = some (.string L[i].en.tx) := by
  rcases h.2 with ⟨_, h0⟩ | ⟨g, c', cur, hv, hg, hh, _⟩
  · omega
  · simp only [Value.slice.injEq] at hv
    refine ⟨g, hv.1, lt_of_block hh, fun i hi => ?_⟩
    obtain ⟨e0, e1, e2, e3, e4⟩ := wrCs_get L i hi
    have k := fun j u hh => h.cells (g := g) (by rw [hv.1]; rfl) j u hh
    have c0 := k _ _ e0
    have c1 := k _ _ e1
    have c2 := k _ _ e2
    have c3 := k _ _ e3
    have c4 := k _ _ e4
    rw [add0, Nat.zero_add] at c0 c1 c2 c3 c4
    exact ⟨c0, c1, c2, c3, c4⟩
theorem ERow.same {w w' : World} {B : Nat} {v : Value} {L : List En} (h : ERow w B v L) (hs : ∀ b, v.ownBlock = some b → w'.heap[b]? = w.heap[b]?) : ERow w' B v L := ownsRow_same h hs
theorem WRow.same {w w' : World} {B : Nat} {v : Value} {L : List Wr} (h : WRow w B v L) (hs : ∀ b, v.ownBlock = some b → w'.heap[b]? = w.heap[b]?) : WRow w' B v L := ownsRow_same h hs
theorem ERow.below {w w' : World} {B : Nat} {v : Value} {L : List En} (h : ERow w B v L) (hb : Below w.heap.size w w') : ERow w' B v L := ownsRow_below h hb
theorem WRow.below {w w' : World} {B : Nat} {v : Value} {L : List Wr} (h : WRow w B v L) (hb : Below w.heap.size w w') : WRow w' B v L := ownsRow_below h hb
def EnIn (w : World) (ao : Option Addr) (L : List En) : Prop := ∀ i (hi : i < L.length), ∃ g, ao = some ⟨g, 0, none⟩ ∧ g < w.heap.size ∧ w.cell? ⟨g, i * 3, none⟩ = some (.string L[i].bt) ∧ w.cell? ⟨g, i * 3 + 1, none⟩ = some (.int .i64 L[i].ac) ∧ w.cell? ⟨g, i * 3 + 2, none⟩ = some (.string L[i].tx)
theorem EnIn.of {w : World} {B : Nat} {ao : Option Addr} {n c : Nat} {L : List En} (h : ERow w B (.slice ao n c) L) : EnIn w ao L := fun i hi => by
  obtain ⟨g, e, hg, hc⟩ := h.get (by omega)
  exact ⟨g, e, hg, hc i hi⟩
theorem EnIn.below {w w' : World} {ao : Option Addr} {L : List En} (h : EnIn w ao L) (hb : Below w.heap.size w w') : EnIn w' ao L := fun i hi => by
  obtain ⟨g, e, hg, c0, c1, c2⟩ := h i hi
  have hz := hb.size
  exact ⟨g, e, by omega, (hb.cell (p := ⟨g, i * 3, none⟩) hg).trans c0, (hb.cell (p := ⟨g, i * 3 + 1, none⟩) hg).trans c1, (hb.cell (p := ⟨g, i * 3 + 2, none⟩) hg).trans c2⟩
end Go.Proofs.YtgkiknfpcbcnnaaGreat

import Derived.Test.YtgkiknfpcbcnnaaGreatGc
import Derived.ProofKit
import Derived.OpenShut
import Derived.SizedLaws
namespace Go.Proofs.YtgkiknfpcbcnnaaGreat
open Go.RowKit
set_option maxRecDepth 20000

/-- Terms none of which is the last. -/
def wInit : List Tm → ByteArray
  | [] => ⟨#[]⟩
  | t :: r => wTerm t false ++ wInit r
theorem wInit_snoc (ts : List Tm) (t : Tm) : wInit (ts ++ [t]) = wInit ts ++ wTerm t false := by
  induction ts with
  | nil => simp [wInit, app_nil, nil_app]
  | cons a r ih => simp only [List.cons_append, wInit, ih, app_assoc]
theorem wInit_last (ts : List Tm) (t : Tm) : wInit ts ++ wTerm t true = wTerms (ts ++ [t]) := by
  induction ts with
  | nil => simp [wInit, wTerms, app_nil, nil_app]
  | cons a r ih =>
    have he : (r ++ [t]).isEmpty = false := by simp
    simp only [List.cons_append, wInit, wTerms, he, app_assoc, ih]
theorem wInit_size (ts : List Tm) : (wInit ts).size ≤ 3 * ts.length := by
  induction ts with
  | nil => exact Nat.zero_le _
  | cons t r ih => have := wTerm_size t false; simp only [wInit, ByteArray.size_append, List.length_cons]; omega

theorem allT_snoc (k : Int) (t : Tm) : ∀ (ts : List Tm) (f : Bool), allT k f ts = true → isT k t = true → (t.an && (f && ts.isEmpty)) = false → allT k f (ts ++ [t]) = true := by
  intro ts
  induction ts with
  | nil =>
    intro f _ ht hf
    simp only [List.isEmpty_nil, Bool.and_true] at hf
    simp [allT, ht, hf]
  | cons a r ih =>
    intro f h ht hf
    simp only [allT, Bool.and_eq_true] at h
    simp only [List.cons_append, allT, Bool.and_eq_true]
    exact ⟨h.1, ih false h.2 ht (by simp)⟩

theorem b2_dec (a n : Int) (h0 : 0 ≤ a) (h1 : a < 2) : b2 (decide (a = 1)) n = n * a := by
  have : a = 0 ∨ a = 1 := by omega
  rcases this with rfl | rfl <;> simp [b2]

theorem wTerm_thin (an : Bool) (op v : Int) (l : Bool) : wTerm ⟨an, false, op, v⟩ l = ch (mk ⟨an, false, op, 0⟩ l) ++ ch v := rfl
theorem wTerm_wide (an : Bool) (op : Int) (l : Bool) (x y : Int) (z : Int) (y0 : 0 ≤ y) (y1 : y < 256) : wTerm ⟨an, true, op, x * 256 + y⟩ l = ch (mk ⟨an, true, op, z⟩ l) ++ (ch x ++ ch y) := by
  have e1 : (x * 256 + y) / 256 = x := by omega
  have e2 : (x * 256 + y) % 256 = y := by omega
  show ch _ ++ (ch ((x * 256 + y) / 256) ++ ch ((x * 256 + y) % 256)) = _
  rw [e1, e2]; rfl

end Go.Proofs.YtgkiknfpcbcnnaaGreat

namespace Go.Proofs.YtgkiknfpcbcnnaaGreat
open Go.RowKit
set_option maxRecDepth 20000

/-- Numbers lie at ao. -/
def IntsAt (w : World) (ao : Option Addr) (n : Nat) : Prop :=
  ∀ i, i < n → ∃ b off z, ao = some ⟨b, off, none⟩ ∧ w.cell? ⟨b, off + i, none⟩ = some (.int .i64 z) ∧ -9223372036854775808 ≤ z ∧ z ≤ 9223372036854775807

theorem allP_snoc (q : Pt) : ∀ (ps : List Pt) (b : Int), allP b ps = true → b < q.ty → (∀ p ∈ ps, p.ty < q.ty) → isP q = true → allP b (ps ++ [q]) = true := by
  intro ps
  induction ps with
  | nil => intro b _ hb _ hq; simp [allP, hb, hq]
  | cons p r ih =>
    intro b h hb hl hq
    simp only [allP, Bool.and_eq_true] at h
    simp only [List.cons_append, allP, Bool.and_eq_true]
    exact ⟨h.1, ih p.ty h.2 (hl p (by simp)) (fun x hx => hl x (by simp [hx])) hq⟩

theorem wParts_snoc (ps : List Pt) (q : Pt) : wParts (ps ++ [q]) = wParts ps ++ wPart q := by
  induction ps with
  | nil => simp [wParts, app_nil, nil_app]
  | cons p r ih => simp only [List.cons_append, wParts, ih, app_assoc]

theorem wParts_size : ∀ (ps : List Pt) (b : Int), allP b ps = true → (wParts ps).size ≤ 25 * ps.length := by
  intro ps
  induction ps with
  | nil => intro b _; exact Nat.zero_le _
  | cons p r ih =>
    intro b h
    simp only [allP, Bool.and_eq_true] at h
    have := wPart_size h.1.2
    have := ih _ h.2
    simp only [wParts, ByteArray.size_append, List.length_cons]; omega

theorem all_dst : (⟨#[1, 0]⟩ : ByteArray) = wParts [⟨1, 0, 0, []⟩] := by
  apply ByteArray.ext
  simp [wParts, wPart, hasP, wPref, pB, wNum, ch, ByteArray.data_append]

end Go.Proofs.YtgkiknfpcbcnnaaGreat

namespace Go.Proofs.YtgkiknfpcbcnnaaGreat
open Go.RowKit
set_option maxRecDepth 20000

theorem flat4_at {α : Type} (f : α → List Value) (hf : ∀ a, (f a).length = 4) : ∀ (l : List α) (i : Nat) (h : i < l.length) (j : Nat), j < 4 → (l.flatMap f)[i * 4 + j]? = (f l[i])[j]? := by
  intro l
  induction l with
  | nil => intro i h; simp at h
  | cons a r ih =>
    intro i h j hj
    rw [List.flatMap_cons]
    cases i with
    | zero => rw [List.getElem?_append_left (by rw [hf]; omega)]; simp
    | succ i =>
      rw [List.getElem?_append_right (by rw [hf]; omega), hf]
      have e : (i + 1) * 4 + j - 4 = i * 4 + j := by omega
      rw [e, ih i (by simpa using h) j hj]
      simp

theorem add0 (g k : Nat) : (⟨g, 0, none⟩ : Addr).add k = ⟨g, 0 + k, none⟩ := by unfold Addr.add; split <;> simp_all

theorem owns_terms_in {w : World} {B : Nat} {ao : Option Addr} {cap : Nat} {ts : List Tm} (h : w.ownsRow B 166 4 (.slice ao ts.length cap) ts.length (tcells ts)) : TermsIn w ao ts := by
  intro i hi
  rcases h.2 with ⟨_, h0⟩ | ⟨g, cap', cur, hv, _⟩
  · omega
  · simp only [Value.slice.injEq] at hv
    obtain ⟨rfl, _, _⟩ := hv
    have hc : ∀ j u, j < 4 → (tcell ts[i])[j]? = some u → w.cell? ⟨g, 0 + i * 4 + j, none⟩ = some u := by
      intro j u hj hu
      have := h.cells (g := g) rfl (i * 4 + j) u (by unfold tcells; rw [flat4_at tcell (fun _ => rfl) ts i hi j hj]; exact hu)
      rw [add0, ← Nat.add_assoc] at this
      exact this
    exact ⟨g, 0, rfl, hc 0 _ (by omega) rfl, hc 1 _ (by omega) rfl, hc 2 _ (by omega) rfl, hc 3 _ (by omega) rfl⟩

theorem RuleAt.reads {w : World} {B : Nat} {ao : Option Addr} {cap : Nat} {qs : List (Pt × Value)} (h : RuleAt w B (.slice ao qs.length cap) qs) (hs : ∀ q ∈ qs, q.1.ts.length ≤ 140737488351232) : PartsIn w ao (qs.map Prod.fst) := by
  intro i hi
  rw [List.length_map] at hi
  rcases h.parts.2 with ⟨_, h0⟩ | ⟨g, cap', cur, hv, _⟩
  · omega
  · simp only [Value.slice.injEq] at hv
    obtain ⟨rfl, _, _⟩ := hv
    have hc : ∀ j u, j < 4 → (pcell qs[i])[j]? = some u → w.cell? ⟨g, 0 + i * 4 + j, none⟩ = some u := by
      intro j u hj hu
      have := h.parts.cells (g := g) rfl (i * 4 + j) u (by unfold pcells; rw [flat4_at pcell (fun _ => rfl) qs i hi j hj]; exact hu)
      rw [add0, ← Nat.add_assoc] at this
      exact this
    have ht := h.terms qs[i] (List.getElem_mem hi)
    obtain ⟨tao, tcap, he⟩ := ownsRow_shape ht
    rw [he] at ht
    simp only [List.getElem_map]
    exact ⟨g, 0, tao, tcap, rfl, hc 0 _ (by omega) rfl, hc 1 _ (by omega) rfl, hc 2 _ (by omega) rfl, hc 3 _ (by omega) (by rw [← he]; rfl), hs _ (List.getElem_mem hi), owns_terms_in ht⟩

/-! A rule without its last byte is none. -/
theorem wPart_two {p : Pt} (h : isP p = true) : 2 ≤ (wPart p).size := by
  unfold wPart
  cases hk : hasP p.ty
  · obtain ⟨h1, h2, h3, h4, h5, h6⟩ := isP_terms h hk
    simp only [Bool.false_eq_true, if_false, ByteArray.size_append, ch_size]
    cases hts : p.ts with
    | nil => rw [hts] at h4; simp at h4
    | cons t r => simp only [wTerms, ByteArray.size_append, wTerm, ch_size]; omega
  · simp only [if_true, ByteArray.size_append, ch_size, wPref]; omega

theorem prefix_parts (s : ByteArray) : ∀ (qs ps : List Pt) (a : Nat) (b c : Int), allP b qs = true → allP c ps = true → At s a (wParts qs) → At s a (wParts ps) → (wParts qs).size ≤ (wParts ps).size → ∃ r, ps = qs ++ r := by
  intro qs
  induction qs with
  | nil => intro ps _ _ _ _ _ _ _ _; exact ⟨ps, rfl⟩
  | cons q r ih =>
    intro ps a b c hq hp aq ap hs
    simp only [allP, Bool.and_eq_true] at hq
    cases ps with
    | nil => exfalso; have := wPart_pos q; simp only [wParts, ByteArray.size_append] at hs; have : (⟨#[]⟩ : ByteArray).size = 0 := rfl; omega
    | cons p t =>
      simp only [allP, Bool.and_eq_true] at hp
      simp only [wParts, At_app] at aq ap
      have e1 := rdPart_complete s a q hq.1.2 aq.1
      have e2 := rdPart_complete s a p hp.1.2 ap.1
      rw [e1] at e2
      simp only [Option.some.injEq, Prod.mk.injEq] at e2
      obtain ⟨rfl, _⟩ := e2
      simp only [wParts, ByteArray.size_append] at hs
      obtain ⟨x, hx⟩ := ih t _ _ _ hq.2 hp.2 aq.2 ap.2 (by omega)
      exact ⟨x, by rw [hx]; rfl⟩

theorem decS_cut (ps : List Pt) (h : isR ps = true) (s' : ByteArray) (hs : s'.size + 1 = (wParts ps).size) (hat : At (wParts ps) 0 s') : decS s' = none := by
  apply decS_none
  intro qs hq he
  unfold isR at h hq
  simp only [Bool.and_eq_true] at h hq
  rw [← he] at hat hs
  obtain ⟨r, hr⟩ := prefix_parts (wParts ps) qs ps 0 0 0 hq.1 h.1 hat (At_self _) (by omega)
  have e : (wParts ps).size = (wParts qs).size + (wParts r).size := by
    have : ∀ x y : List Pt, (wParts (x ++ y)).size = (wParts x).size + (wParts y).size := by
      intro x y
      induction x with
      | nil => show (wParts y).size = 0 + _; omega
      | cons p t ih => simp only [List.cons_append, wParts, ByteArray.size_append, ih]; omega
    rw [hr]; exact this qs r
  cases r with
  | nil => have : (wParts []).size = 0 := rfl; omega
  | cons p t =>
    have hp : isP p = true := by
      have := allP_get ps 0 h.1 qs.length (by rw [hr]; simp)
      simpa [hr] using this
    have := wPart_two hp
    simp only [wParts, ByteArray.size_append] at e
    omega

theorem decode_yes' (s : ByteArray) (ps : List Pt) (w : World) (hs : s.size ≤ 140737488351232) (h : Hid (decS s = some ps)) :
    Calls Tryz.prog 73 #[.string s] w fun e w' => (∃ ao cap qs, e = .returned (.tuple #[.agg #[.slice ao qs.length cap], .int .i64 0]) ∧ qs.map Prod.fst = ps ∧ RuleAt w' w.heap.size (.slice ao qs.length cap) qs) ∧ Below w.heap.size w w' :=
  (decode_any s w hs).mono fun e w' ⟨hb, hd⟩ => by
    unfold DecPost at hd
    rw [h.out] at hd
    obtain ⟨v, qs, he, hq, hr⟩ := hd
    obtain ⟨ao, cap, rfl⟩ := ownsRow_shape hr.parts
    exact ⟨⟨ao, cap, qs, he, hq, hr⟩, hb⟩

theorem decode_no' (s : ByteArray) (w : World) (hs : s.size ≤ 140737488351232) (h : Hid (decS s = none)) :
    Calls Tryz.prog 73 #[.string s] w fun e w' => e = .returned (.tuple #[.agg #[.slice none 0 0], .int .i64 1]) ∧ Below w.heap.size w w' :=
  (decode_any s w hs).mono fun e w' ⟨hb, hd⟩ => by
    unfold DecPost at hd
    rw [h.out] at hd
    exact ⟨hd, hb⟩

theorem isR_small {ps : List Pt} (h : isR ps = true) : ps.length ≤ 5 ∧ 0 < ps.length ∧ ∀ p ∈ ps, p.ts.length ≤ 140737488351232 := by
  unfold isR at h
  simp only [Bool.and_eq_true, decide_eq_true_eq] at h
  have := allP_len ps 0 (by omega) (by omega) h.1
  refine ⟨by omega, h.2, fun p hp => ?_⟩
  obtain ⟨i, hi, rfl⟩ := List.getElem_of_mem hp
  have hP := allP_get ps 0 h.1 i hi
  cases hk : hasP ps[i].ty
  · have := (isP_terms hP hk).2.2.2.2.1; omega
  · rw [(isP_pref hP hk).1]; simp

theorem bl_extract (s : ByteArray) (a : Nat) : bl (s.extract 0 a) = (bl s).take a := by
  unfold bl; simp [ByteArray.data_extract]

end Go.Proofs.YtgkiknfpcbcnnaaGreat

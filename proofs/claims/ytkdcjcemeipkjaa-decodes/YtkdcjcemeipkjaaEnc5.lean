import Derived.Test.YtkdcjcemeipkjaaEnc4
namespace Go.Proofs.Ytkdcjcemeipkjaa
open Go.RowKit
set_option maxRecDepth 20000

def wPref (b l : Int) : ByteArray := ch l ++ wNum (if pB l = 1 then b / 256 else b) (pB l)
def wTerms : List Tm → ByteArray
  | [] => ⟨#[]⟩
  | t :: r => wTerm t r.isEmpty ++ wTerms r
def wPart (p : Pt) : ByteArray := if hasP p.ty then ch p.ty ++ wPref p.bt p.ln else ch p.ty ++ wTerms p.ts
def wParts : List Pt → ByteArray
  | [] => ⟨#[]⟩
  | p :: r => wPart p ++ wParts r

theorem app_assoc (a b c : ByteArray) : a ++ b ++ c = a ++ (b ++ c) := by
  apply ByteArray.ext; simp [ByteArray.data_append]
theorem nil_app (a : ByteArray) : (⟨#[]⟩ : ByteArray) ++ a = a := by
  apply ByteArray.ext; simp [ByteArray.data_append]

theorem wNum_one (n : Int) : wNum n 1 = ch n := rfl
theorem wTerm_size (t : Tm) (l : Bool) : (wTerm t l).size ≤ 3 := by
  unfold wTerm
  have := vB_bd t.wd
  have := wNum_size t.vl (vB t.wd) (by omega) (by omega)
  rw [ByteArray.size_append, ch_size]; omega
theorem wPref_size (b l : Int) : (wPref b l).size ≤ 3 := by
  unfold wPref
  have := pB_bd l
  have := wNum_size (if pB l = 1 then b / 256 else b) (pB l) (by omega) (by omega)
  rw [ByteArray.size_append, ch_size]; omega
theorem wTerms_size (ts : List Tm) : (wTerms ts).size ≤ 3 * ts.length := by
  induction ts with
  | nil => exact Nat.zero_le _
  | cons t r ih => have := wTerm_size t r.isEmpty; simp only [wTerms, ByteArray.size_append, List.length_cons]; omega

set_option maxHeartbeats 400000 in
theorem writePrefix_any (b l : Int) (w : World) (h : prefOK b l = true) :
    Calls Try.prog 51 #[.agg #[.int .i64 b, .int .i64 l]] w fun e w' => e = .returned (.string (wPref b l)) ∧ Below w.heap.size w w' := by
  unfold prefOK at h
  simp only [Bool.and_eq_true, decide_eq_true_eq] at h
  obtain ⟨⟨⟨⟨h1, h2⟩, h3⟩, h4⟩, _⟩ := h
  have pb := pB_bd l
  have s1 : (wNum l 1).size = 1 := rfl
  by_cases hp : pB l = 1
  · have e : wPref b l = wNum l 1 ++ wNum (b / 256) (pB l) := by unfold wPref; rw [if_pos hp]; rfl
    rw [e]; clear e
    have hp' : (pB l == 1) = true := by simpa using hp
    have s2 : (wNum (b / 256) (pB l)).size ≤ 2 := by have := wNum_size (b / 256) (pB l) (by omega) (by omega); omega
    clear hp
    go_enter Try.func51, Try.ntmps51
    go_wp2_with (first
      | (go_at_call 63; refine (prefixBytes_any _ _).mono ?_; rintro e w' ⟨rfl, rfl⟩)
      | (go_at_call_of 50 (Value.int IntKind.i64 l); refine (writeNumber_any _ _ _ (by omega) (by omega) (by omega) (by omega) (by omega)).mono ?_; rintro e w1 ⟨rfl, hb1⟩)
      | (go_at_call 50; refine (writeNumber_any _ _ _ (by omega) (by omega) (by omega) (by omega) (by omega)).mono ?_; rintro e w2 ⟨rfl, hb2⟩))
    go_ret
    exact ⟨rfl, (below_first hb1).trans (hb2.mono (by have := hb1.size; simp at this; omega))⟩
  · have e : wPref b l = wNum l 1 ++ wNum b (pB l) := by unfold wPref; rw [if_neg hp]; rfl
    rw [e]; clear e
    have hp' : (pB l == 1) = false := by simpa using hp
    have s2 : (wNum b (pB l)).size ≤ 2 := by have := wNum_size b (pB l) (by omega) (by omega); omega
    go_enter Try.func51, Try.ntmps51
    go_wp2_with (first
      | (go_at_call 63; refine (prefixBytes_any _ _).mono ?_; rintro e w' ⟨rfl, rfl⟩)
      | (go_at_call_of 50 (Value.int IntKind.i64 l); refine (writeNumber_any _ _ _ (by omega) (by omega) (by omega) (by omega) (by omega)).mono ?_; rintro e w1 ⟨rfl, hb1⟩)
      | (go_at_call 50; refine (writeNumber_any _ _ _ (by omega) (by omega) (by omega) (by omega) (by omega)).mono ?_; rintro e w2 ⟨rfl, hb2⟩))
    go_ret
    exact ⟨rfl, (below_first hb1).trans (hb2.mono (by have := hb1.size; simp at this; omega))⟩
end Go.Proofs.Ytkdcjcemeipkjaa

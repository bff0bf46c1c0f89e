import Derived.Test.YthlacailhfhjnaaGreatDoorWbi
namespace Go.Proofs.YthlacailhfhjnaaGreatDoor
open Go.RowKit Go.Lib
def rsn (n : Int) : Bs :=
  if n = 200 then [79, 75] else
  if n = 201 then [67, 114, 101, 97, 116, 101, 100] else
  if n = 400 then [66, 97, 100, 32, 82, 101, 113, 117, 101, 115, 116] else
  if n = 401 then [85, 110, 97, 117, 116, 104, 111, 114, 105, 122, 101, 100] else
  if n = 403 then [70, 111, 114, 98, 105, 100, 100, 101, 110] else
  if n = 404 then [78, 111, 116, 32, 70, 111, 117, 110, 100] else
  if n = 405 then [77, 101, 116, 104, 111, 100, 32, 78, 111, 116, 32, 65, 108, 108, 111, 119, 101, 100] else
  if n = 415 then [85, 110, 115, 117, 112, 112, 111, 114, 116, 101, 100, 32, 77, 101, 100, 105, 97, 32, 84, 121, 112, 101] else
  if n = 429 then [84, 111, 111, 32, 77, 97, 110, 121, 32, 82, 101, 113, 117, 101, 115, 116, 115] else
  if n = 500 then [73, 110, 116, 101, 114, 110, 97, 108, 32, 83, 101, 114, 118, 101, 114, 32, 69, 114, 114, 111, 114] else
  if n = 503 then [83, 101, 114, 118, 105, 99, 101, 32, 85, 110, 97, 118, 97, 105, 108, 97, 98, 108, 101] else
  [83, 116, 97, 116, 117, 115]
set_option maxHeartbeats 4000000 in
set_option maxRecDepth 8000 in
theorem reason_any (n : Int) (w : World) : Calls Tryz.prog 68 #[.int .i64 n] w fun e w' => e = .returned (S (rsn n)) ∧ w' = w := by
  by_cases h0 : n = 200
  · subst h0
    go_enter Tryz.func68, Tryz.ntmps68
    go_wp2
    go_ret
    exact ⟨rfl, rfl⟩
  by_cases h1 : n = 201
  · subst h1
    go_enter Tryz.func68, Tryz.ntmps68
    go_wp2
    go_ret
    exact ⟨rfl, rfl⟩
  by_cases h2 : n = 400
  · subst h2
    go_enter Tryz.func68, Tryz.ntmps68
    go_wp2
    go_ret
    exact ⟨rfl, rfl⟩
  by_cases h3 : n = 401
  · subst h3
    go_enter Tryz.func68, Tryz.ntmps68
    go_wp2
    go_ret
    exact ⟨rfl, rfl⟩
  by_cases h4 : n = 403
  · subst h4
    go_enter Tryz.func68, Tryz.ntmps68
    go_wp2
    go_ret
    exact ⟨rfl, rfl⟩
  by_cases h5 : n = 404
  · subst h5
    go_enter Tryz.func68, Tryz.ntmps68
    go_wp2
    go_ret
    exact ⟨rfl, rfl⟩
  by_cases h6 : n = 405
  · subst h6
    go_enter Tryz.func68, Tryz.ntmps68
    go_wp2
    go_ret
    exact ⟨rfl, rfl⟩
  by_cases h7 : n = 415
  · subst h7
    go_enter Tryz.func68, Tryz.ntmps68
    go_wp2
    go_ret
    exact ⟨rfl, rfl⟩
  by_cases h8 : n = 429
  · subst h8
    go_enter Tryz.func68, Tryz.ntmps68
    go_wp2
    go_ret
    exact ⟨rfl, rfl⟩
  by_cases h9 : n = 500
  · subst h9
    go_enter Tryz.func68, Tryz.ntmps68
    go_wp2
    go_ret
    exact ⟨rfl, rfl⟩
  by_cases h10 : n = 503
  · subst h10
    go_enter Tryz.func68, Tryz.ntmps68
    go_wp2
    go_ret
    exact ⟨rfl, rfl⟩
  have e : rsn n = [83, 116, 97, 116, 117, 115] := by
    unfold rsn
    rw [if_neg h0, if_neg h1, if_neg h2, if_neg h3, if_neg h4, if_neg h5, if_neg h6, if_neg h7, if_neg h8, if_neg h9, if_neg h10]
  rw [e]
  clear e
  go_enter Tryz.func68, Tryz.ntmps68
  go_wp2
  go_ret
  exact ⟨rfl, rfl⟩
def okR (l : Bs) : Bool := l.all shn && decide (l.length ≤ 30)
theorem rsn_ok (n : Int) : okR (rsn n) = true := by
  by_cases h0 : n = 200
  · subst h0; decide
  by_cases h1 : n = 201
  · subst h1; decide
  by_cases h2 : n = 400
  · subst h2; decide
  by_cases h3 : n = 401
  · subst h3; decide
  by_cases h4 : n = 403
  · subst h4; decide
  by_cases h5 : n = 404
  · subst h5; decide
  by_cases h6 : n = 405
  · subst h6; decide
  by_cases h7 : n = 415
  · subst h7; decide
  by_cases h8 : n = 429
  · subst h8; decide
  by_cases h9 : n = 500
  · subst h9; decide
  by_cases h10 : n = 503
  · subst h10; decide
  unfold rsn
  rw [if_neg h0, if_neg h1, if_neg h2, if_neg h3, if_neg h4, if_neg h5, if_neg h6, if_neg h7, if_neg h8, if_neg h9, if_neg h10]
  decide
theorem rsn_shn (n : Int) : (rsn n).all shn = true ∧ (rsn n).length ≤ 30 := by
  have := rsn_ok n
  unfold okR at this
  simpa only [Bool.and_eq_true, decide_eq_true_eq] using this
theorem ba_append (a b : List UInt8) : (ByteArray.mk a.toArray ++ ByteArray.mk b.toArray) = ⟨(a ++ b).toArray⟩ := by
  apply ByteArray.ext
  simp
/-- A builder that holds a text. -/
def Bd (B b : Nat) (l : Bs) (w : World) : Prop := IsBuilderF 122 5 B b (byteCells l) w
theorem write_any (B b : Nat) (acc s : Bs) (w : World) (h : Bd B b acc w) (hl : acc.length + s.length ≤ 140737488355328) (hB : B ≤ w.heap.size) :
    Calls Tryz.prog 91 #[(.pointer (some ⟨b, 0, none⟩) : Value), S s] w fun e w' => e = .returned (.tuple #[.int .i64 s.length, .nilIface]) ∧ Bd B b (acc ++ s) w' ∧ Below B w w' ∧ OthersKept 5 (some b) w w' := by
  have hsz := ba_size s
  refine (Tryz.Builder_WriteString_k B b (byteCells acc) ⟨s.toArray⟩ w h (by rw [byteCells_length, hsz]; exact hl) hB).mono ?_
  rintro e w' ⟨rfl, h1, h2, h3⟩
  rw [hsz]
  refine ⟨rfl, ?_, h2, h3⟩
  unfold Bd
  rw [byteCells_append]
  have e : strCells ⟨s.toArray⟩ = byteCells s := by simp [strCells, byteCells]
  rw [e] at h1
  exact .inr h1
theorem itoa_any {B : Nat} (n : Nat) (w : World) (hE : Env B w) (hn : n ≤ 9223372036854775807) : Calls Tryz.prog 67 #[.int .i64 (n : Int)] w fun e w' => e = .returned (S (decDigits n)) ∧ Below w.heap.size w w' := by
  refine (Tryz.strconv_Itoa (n : Int) (by omega) (by omega) w hE.tabIs).mono ?_
  rintro e w' ⟨rfl, k, os, rfl⟩
  refine ⟨by rw [itoa_nonneg], ?_⟩
  refine (below_dN (Below.refl _ _) k).trans ⟨rfl, rfl, rfl, ?_, fun j hj => ?_⟩
  · simp [Go.Sort.grow]
  · simp only [Go.Sort.grow]
    exact Array.getElem?_append_left hj
end Go.Proofs.YthlacailhfhjnaaGreatDoor

import Derived.Test.YthlacailhfhjnaaGreatDoorWfd
import Derived.Test.YthlacailhfhjnaaGreatDoorWdp
import Derived.BigQuiet
namespace Go.Proofs.YthlacailhfhjnaaGreatDoor
open Go.RowKit Go.Lib
set_option maxHeartbeats 4000000 in
set_option maxRecDepth 8000 in
theorem rReason_any (n : Int) (w : World) : Calls Tryz.prog 59 #[.int .i64 n] w fun e w' => e = .returned (S (rsn n)) ∧ w' = w := by
  by_cases h0 : n = 200
  · subst h0
    go_enter Tryz.func59, Tryz.ntmps59
    go_wp2
    go_ret
    exact ⟨rfl, rfl⟩
  by_cases h1 : n = 201
  · subst h1
    go_enter Tryz.func59, Tryz.ntmps59
    go_wp2
    go_ret
    exact ⟨rfl, rfl⟩
  by_cases h2 : n = 400
  · subst h2
    go_enter Tryz.func59, Tryz.ntmps59
    go_wp2
    go_ret
    exact ⟨rfl, rfl⟩
  by_cases h3 : n = 401
  · subst h3
    go_enter Tryz.func59, Tryz.ntmps59
    go_wp2
    go_ret
    exact ⟨rfl, rfl⟩
  by_cases h4 : n = 403
  · subst h4
    go_enter Tryz.func59, Tryz.ntmps59
    go_wp2
    go_ret
    exact ⟨rfl, rfl⟩
  by_cases h5 : n = 404
  · subst h5
    go_enter Tryz.func59, Tryz.ntmps59
    go_wp2
    go_ret
    exact ⟨rfl, rfl⟩
  by_cases h6 : n = 405
  · subst h6
    go_enter Tryz.func59, Tryz.ntmps59
    go_wp2
    go_ret
    exact ⟨rfl, rfl⟩
  by_cases h7 : n = 415
  · subst h7
    go_enter Tryz.func59, Tryz.ntmps59
    go_wp2
    go_ret
    exact ⟨rfl, rfl⟩
  by_cases h8 : n = 429
  · subst h8
    go_enter Tryz.func59, Tryz.ntmps59
    go_wp2
    go_ret
    exact ⟨rfl, rfl⟩
  by_cases h9 : n = 500
  · subst h9
    go_enter Tryz.func59, Tryz.ntmps59
    go_wp2
    go_ret
    exact ⟨rfl, rfl⟩
  by_cases h10 : n = 503
  · subst h10
    go_enter Tryz.func59, Tryz.ntmps59
    go_wp2
    go_ret
    exact ⟨rfl, rfl⟩
  have e : rsn n = [83, 116, 97, 116, 117, 115] := by
    unfold rsn
    rw [if_neg h0, if_neg h1, if_neg h2, if_neg h3, if_neg h4, if_neg h5, if_neg h6, if_neg h7, if_neg h8, if_neg h9, if_neg h10]
  rw [e]
  clear e
  go_enter Tryz.func59, Tryz.ntmps59
  go_wp2
  go_ret
  exact ⟨rfl, rfl⟩
/-- What stands behind a first line. -/
def lad (hs : List Fl) (b : Bs) : Bs := hlns hs ++ (hln (CL, decDigits b.length) ++ ([13, 10] ++ b))
theorem lay_lad (first : Bs) (hs : List Fl) (b : Bs) : lay first hs b = first ++ ([13, 10] ++ lad hs b) := rfl
theorem hlns_next (fs : List Fl) (k : Nat) (h : k < fs.length) : hlns (fs.take (k + 1)) = hlns (fs.take k) ++ hln (fs.getD k fl0) := by
  have e : fs.take (k + 1) = fs.take k ++ [fs.getD k fl0] := by
    rw [List.take_succ_eq_append_getElem h]
    simp [h]
  rw [e]
  simp [hlns]
theorem cat5 (T fn fv : Bs) : (⟨T.toArray⟩ : ByteArray) ++ ⟨fn.toArray⟩ ++ ⟨#[58, 32]⟩ ++ ⟨fv.toArray⟩ ++ ⟨#[13, 10]⟩ = ⟨(T ++ hln (fn, fv)).toArray⟩ := by
  show (⟨T.toArray⟩ : ByteArray) ++ ⟨fn.toArray⟩ ++ ⟨([58, 32] : Bs).toArray⟩ ++ ⟨fv.toArray⟩ ++ ⟨([13, 10] : Bs).toArray⟩ = _
  rw [ba_append, ba_append, ba_append, ba_append]
  simp [hln]
theorem catl (T D b : Bs) : (⟨T.toArray⟩ : ByteArray) ++ ⟨#[67, 111, 110, 116, 101, 110, 116, 45, 76, 101, 110, 103, 116, 104, 58, 32]⟩ ++ ⟨D.toArray⟩ ++ ⟨#[13, 10]⟩ ++ ⟨#[13, 10]⟩ ++ ⟨b.toArray⟩ = ⟨(T ++ (hln (CL, D) ++ ([13, 10] ++ b))).toArray⟩ := by
  show (⟨T.toArray⟩ : ByteArray) ++ ⟨([67, 111, 110, 116, 101, 110, 116, 45, 76, 101, 110, 103, 116, 104, 58, 32] : Bs).toArray⟩ ++ ⟨D.toArray⟩ ++ ⟨([13, 10] : Bs).toArray⟩ ++ ⟨([13, 10] : Bs).toArray⟩ ++ ⟨b.toArray⟩ = _
  rw [ba_append, ba_append, ba_append, ba_append, ba_append]
  simp [hln, CL]
set_option maxHeartbeats 8000000 in
set_option maxRecDepth 8000 in
theorem laid_any (a : Option Addr) (n cap : Nat) (fs : List Fl) (b : Bs) (w : World) (hp : Fls w a n fs) (hf : flw fs b = true) :
    Calls Tryz.prog 60 #[.slice a n cap, S b] w fun e w' => e = .returned (S (lad fs b)) ∧ ∃ q, w' = w.drewN q := by
  obtain ⟨l1, l2, l3⟩ := flw_len hf
  have hn := hp.1
  have HP := hide hp
  have HD := hide (fun W => digits_any b.length W (by omega))
  have hdl := dec_len b.length (by omega)
  clear hp hf
  go_enter Tryz.func60, Tryz.ntmps60
  go_wp2
  go_loopw [5, 6] (fun s i wr => ∃ k : Nat, k ≤ n ∧ i = .int .i64 k ∧ s = S (hlns (fs.take k)) ∧ ∃ q, wr = w.drewN q) (fun _ i _ => n - (Go.RowKit.intOf i).toNat)
  case atStart => exact ⟨0, by omega, rfl, by simp [hlns], 0, rfl⟩
  case round =>
    obtain ⟨k, hk, rfl, rfl, hq⟩ := hrel
    have HQ := hide hq
    have HR : Hid (Fls wr a n fs) := hide (by obtain ⟨Q, rfl⟩ := hq; exact (unhide HP).below (below_dN (Below.refl _ _) Q))
    clear hq
    have hle := hlns_le fs k
    by_cases hlt : k < n
    · obtain ⟨p, o, rfl, hpl, hc0, hc1⟩ := (unhide HR).at hlt
      have hnx := hide (hlns_next fs k (by omega))
      have hle2 := hlns_le fs (k + 1)
      rw [unhide hnx] at hle2
      have hlt' : (k : Int) < (n : Int) := by omega
      generalize fs.getD k fl0 = F at *
      obtain ⟨fn, fv⟩ := F
      simp only at hc0 hc1
      have hF : fn.length + fv.length + 4 = (hln (fn, fv)).length := by simp [hln]; omega
      rw [List.length_append] at hle2
      have hF1 : fn.length ≤ 32064 := by omega
      have hF2 : fv.length ≤ 32064 := by omega
      have HC := hide (cat5 (hlns (fs.take k)) fn fv)
      rw [← unhide hnx] at HC
      generalize hlns (fs.take k) = T at *
      have hT : T.length ≤ 32064 := by omega
      clear hnx hle2 hF
      go_wp2_with fail
      go_quiet (fail)
      rw [unhide HC]
      have HW : Hid (∃ q, wr.drewN nq = w.drewN q) := hide (by obtain ⟨Q, rfl⟩ := unhide HQ; exact ⟨Q + nq, by simp⟩)
      generalize wr.drewN nq = wv at *
      go_wp2
      exact ⟨⟨k + 1, by omega, by go_num, rfl, unhide HW⟩, by simp [Go.RowKit.intOf]; omega⟩
    · have hd : decide ((k : Int) < (n : Int)) = false := by simp; omega
      have hkn : fs.take k = fs := List.take_of_length_le (by omega)
      rw [hkn]
      have HC := hide (catl (hlns fs) (decDigits b.length) b)
      have HL : Hid (lad fs b = hlns fs ++ (hln (CL, decDigits b.length) ++ ([13, 10] ++ b))) := hide rfl
      generalize hlns fs = T at *
      generalize decDigits b.length = D at *
      clear hkn hle
      go_wp2_with fail
      refine (unhide HD _).mono ?_
      rintro e w1 ⟨rfl, hw⟩
      rw [hw]
      clear hw w1 HD
      go_wp2
      go_ret
      refine ⟨?_, unhide HQ⟩
      rw [unhide HC, ← unhide HL]
      rfl
end Go.Proofs.YthlacailhfhjnaaGreatDoor

import Derived.Test.YthlacailhfhjnaaGreatDoorZwbd
import Derived.Lib.ItoaLen
namespace Go.Proofs.YthlacailhfhjnaaGreatDoor
open Go.RowKit Go.Lib
theorem hln_len (f : Fl) : (hln f).length = f.1.length + f.2.length + 4 := by simp [hln]; omega
def hsum : List Fl → Nat
  | [] => 0
  | f :: l => f.1.length + f.2.length + 4 + hsum l
theorem hlns_len (hs : List Fl) : (hlns hs).length = hsum hs := by
  induction hs with
  | nil => rfl
  | cons f l ih =>
    have e : hlns (f :: l) = hln f ++ hlns l := by simp [hlns]
    rw [e, List.length_append, ih, hln_len]
    rfl
theorem hlns_take (hs : List Fl) (k : Nat) (h : k < hs.length) : hlns (hs.take (k + 1)) = hlns (hs.take k) ++ hln (hs.getD k fl0) := by
  have e : hs.getD k fl0 = hs[k] := by simp [h]
  rw [List.take_succ_eq_append_getElem h, e]
  unfold hlns
  rw [List.flatMap_append]
  simp
theorem hlns_le (hs : List Fl) (k : Nat) : (hlns (hs.take k)).length ≤ (hlns hs).length := by
  have e : hlns hs = hlns (hs.take k) ++ hlns (hs.drop k) := by
    unfold hlns
    rw [← List.flatMap_append, List.take_append_drop]
  rw [e, List.length_append]
  omega
theorem Bd.keep {B b : Nat} {acc : Bs} {W W' : World} (h : Bd B b acc W) (k : Below W.heap.size W W') : Bd B b acc W' := by
  have hh : ∀ (i : Nat) (o : Obj), W.heap[i]? = some o → W'.heap[i]? = some o := fun i o e => by
    rw [k.block i (Array.getElem?_eq_some_iff.1 e).1]
    exact e
  have key : ∀ p, BuilderAtF 122 5 B b p (byteCells acc) W → BuilderAtF 122 5 B b p (byteCells acc) W' := by
    rintro p ⟨hB, v, hb, hown, hne⟩
    refine ⟨hB, v, hh _ _ hb, ⟨hown.1, ?_⟩, hne⟩
    rcases hown.2 with hn | ⟨g, cap, cur, fz, hv, hbg, hg, rest⟩
    · exact .inl hn
    · exact .inr ⟨g, cap, cur, fz, hv, hbg, hh _ _ hg, rest⟩
  exact h.elim (fun x => .inl (key _ x)) (fun x => .inr (key _ x))
theorem bd_below {B b : Nat} {l : Bs} {w w' : World} (h : Bd B b l w) (hb : Below w.heap.size w w') : Bd B b l w' := h.keep hb
theorem itoa_len (n : Nat) (h : n ≤ 1000000000000) : (decDigits n).length ≤ 100 := by
  have := itoa_length_le (n : Int) (by omega) (by omega)
  rw [itoa_nonneg] at this
  omega
theorem write_eq (B b : Nat) (acc s : Bs) (X : ByteArray) (hX : X = ⟨s.toArray⟩) (w : World) (h : Bd B b acc w) (hl : acc.length + s.length ≤ 140737488355328) (hB : B ≤ w.heap.size) :
    Calls Tryz.prog 91 #[(.pointer (some ⟨b, 0, none⟩) : Value), .string X] w fun e w' => e = .returned (.tuple #[.int .i64 s.length, .nilIface]) ∧ Bd B b (acc ++ s) w' ∧ Below B w w' ∧ OthersKept 5 (some b) w w' := by
  subst hX
  exact write_any B b acc s w h hl hB
set_option maxHeartbeats 8000000 in
set_option maxRecDepth 8000 in
theorem lay_any {B : Nat} (first : Bs) (a : Option Addr) (n cap : Nat) (hs : List Fl) (b : Bs) (w : World) (hp : Fls w a n hs) (hE : Env B w) (h1 : first.length ≤ 1000000000000) (h2 : (hlns hs).length ≤ 1000000000000) (h3 : b.length ≤ 1000000000000) (hn : n ≤ 1000000000000) :
    Calls Tryz.prog 65 #[S first, .slice a n cap, S b] w fun e w' => e = .returned (S (lay first hs b)) ∧ Below w.heap.size w w' := by
  have hb0 : Below w.heap.size w (w.alloc (.cells #[.pointer none, .slice none 0 0] 122)) := (Below.refl _ w).alloc (Nat.le_refl _) _
  have HB := hide (show Bd w.heap.size w.heap.size [] (w.alloc (.cells #[.pointer none, .slice none 0 0] 122)) from IsBuilderF.of (fresh_isBuilder 122 5 w))
  have HB0 := hide hb0
  have HP := hide hp
  have HN := hide hp.1
  have HE := hide hE.mono
  have hz0 : w.heap.size ≤ (w.alloc (.cells #[.pointer none, .slice none 0 0] 122)).heap.size := by simp
  clear hp hE hb0
  go_enter Tryz.func65, Tryz.ntmps65
  go_wp2_with fail
  refine (write_eq w.heap.size w.heap.size [] (first ++ [13, 10]) _ (ba_append first [13, 10]) _ (unhide HB) (by simp; omega) hz0).mono ?_
  rintro e w1 ⟨rfl, q1, q2, _⟩
  have HB1 := hide (show Bd w.heap.size w.heap.size (first ++ [13, 10]) w1 from q1)
  have HW1 := hide ((unhide HB0).trans q2)
  have hz1 : w.heap.size < w1.heap.size := by have := q2.size; simp at this; omega
  clear q1 q2 HB HB0 hz0
  go_wp2
  go_loopw [15] (fun i wr => ∃ k : Nat, k ≤ n ∧ i = .int .i64 k ∧ Bd w.heap.size w.heap.size (first ++ [13, 10] ++ hlns (hs.take k)) wr ∧ Below w.heap.size w wr ∧ w.heap.size < wr.heap.size) (fun i _ => n - (Go.RowKit.intOf i).toNat)
  case atStart => exact ⟨0, by omega, rfl, by simpa [hlns] using unhide HB1, unhide HW1, hz1⟩
  case round =>
    obtain ⟨k, hk, rfl, hbd, hbr, hsz⟩ := hrel
    clear HB1 HW1 hz1
    have hle := hlns_le hs k
    have hlO : (first ++ [13, 10] ++ hlns (hs.take k)).length = first.length + 2 + (hlns (hs.take k)).length := by simp; omega
    by_cases hlt : k < n
    · obtain ⟨p, o, rfl, hpl, hc0, hc1⟩ := ((unhide HP).below hbr).at hlt
      have hta := hlns_take hs k (by have := unhide HN; omega)
      have hl2 := hlns_le hs (k + 1)
      rw [hta, List.length_append] at hl2
      have HTA := hide (show first ++ [13, 10] ++ hlns (hs.take (k + 1)) = (first ++ [13, 10] ++ hlns (hs.take k)) ++ hln (hs.getD k fl0) by rw [hta]; simp)
      have hll := hln_len (hs.getD k fl0)
      generalize hs.getD k fl0 = F at *
      obtain ⟨fn, fv⟩ := F
      simp only at hc0 hc1 hll
      have hlt' : (k : Int) < (n : Int) := by omega
      have hE0 := hide (hbr.alloc (o := Obj.cells #[S fn, S fv] 35) (by omega))
      have hI0 := hide (show Bd w.heap.size w.heap.size _ _ from IsBuilderF.alloc hbd (.cells #[S fn, S fv] 35))
      have hs0 : w.heap.size ≤ (wr.alloc (.cells #[S fn, S fv] 35)).heap.size := by simp; omega
      have HX := hide (show (((ByteArray.mk fn.toArray ++ ByteArray.mk #[58, 32]) ++ ByteArray.mk fv.toArray) ++ ByteArray.mk #[13, 10]) = ⟨(hln (fn, fv)).toArray⟩ from by
        show (((ByteArray.mk fn.toArray ++ ByteArray.mk [58, 32].toArray) ++ ByteArray.mk fv.toArray) ++ ByteArray.mk [13, 10].toArray) = _
        rw [ba_append, ba_append, ba_append]
        simp [hln])
      generalize first ++ [13, 10] ++ hlns (hs.take k) = ACC at *
      clear hbd hbr hta
      go_wp2_with fail
      refine (write_eq w.heap.size w.heap.size ACC (hln (fn, fv)) _ (unhide HX) _ (unhide hI0) (by omega) hs0).mono ?_
      rintro e w2 ⟨rfl, q1, q2, _⟩
      have HB2 := hide q1
      have HW2 := hide ((unhide hE0).trans q2)
      have hz2 : w.heap.size < w2.heap.size := by have := q2.size; simp at this; omega
      clear q1 q2
      go_wp2
      refine ⟨⟨k + 1, by omega, by go_num, by rw [unhide HTA]; exact unhide HB2, unhide HW2, hz2⟩, ?_⟩
      simp [Go.RowKit.intOf]; omega
    · have hd : decide (k < n) = false := by simp; omega
      have e : hs.take k = hs := List.take_of_length_le (by have := unhide HN; omega)
      rw [e] at hbd hlO
      have HL := hide (show lay first hs b = (((first ++ [13, 10] ++ hlns hs) ++ hln (CL, decDigits b.length)) ++ [13, 10]) ++ b by simp [lay])
      generalize first ++ [13, 10] ++ hlns hs = ACC at *
      have HBD := hide hbd
      have HBR := hide hbr
      have HIT := hide (itoa_any b.length wr ((unhide HE).below hbr) (by omega))
      have HDL := hide (itoa_len b.length (by omega))
      have HX := hide (show ((ByteArray.mk #[67, 111, 110, 116, 101, 110, 116, 45, 76, 101, 110, 103, 116, 104, 58, 32] ++ ByteArray.mk (decDigits b.length).toArray) ++ ByteArray.mk #[13, 10]) = ⟨(hln (CL, decDigits b.length)).toArray⟩ from by
        show ((ByteArray.mk [67, 111, 110, 116, 101, 110, 116, 45, 76, 101, 110, 103, 116, 104, 58, 32].toArray ++ ByteArray.mk (decDigits b.length).toArray) ++ ByteArray.mk [13, 10].toArray) = _
        rw [ba_append, ba_append]
        simp [hln, CL])
      have hll := hln_len (CL, decDigits b.length)
      have hcl : CL.length = 14 := rfl
      simp only at hll
      have hdl := unhide HDL
      clear hbd hbr e HDL
      generalize hln (CL, decDigits b.length) = HLN at *
      generalize decDigits b.length = DD at *
      go_wp2_with fail
      refine (unhide HIT).mono ?_
      rintro e w2 ⟨rfl, b2⟩
      have HB2 := hide (show Bd w.heap.size w.heap.size ACC w2 from bd_below (unhide HBD) b2)
      have HW2 := hide ((unhide HBR).trans (b2.mono (by omega)))
      have hz2 : w.heap.size < w2.heap.size := by have := b2.size; omega
      clear b2 HIT HBD HBR
      go_wp2_with fail
      refine (write_eq w.heap.size w.heap.size ACC HLN _ (unhide HX) _ (unhide HB2) (by omega) (by omega)).mono ?_
      rintro e w3 ⟨rfl, q1, q2, _⟩
      have HB3 := hide q1
      have HW3 := hide ((unhide HW2).trans q2)
      have hz3 : w.heap.size < w3.heap.size := by have := q2.size; omega
      have hl3 : (ACC ++ HLN).length = ACC.length + HLN.length := by simp
      clear q1 q2 HB2 HW2
      generalize ACC ++ HLN = A3 at *
      go_wp2_with fail
      refine (write_eq w.heap.size w.heap.size A3 [13, 10] _ rfl _ (unhide HB3) (by simp; omega) (by omega)).mono ?_
      rintro e w4 ⟨rfl, q1, q2, _⟩
      have HB4 := hide q1
      have HW4 := hide ((unhide HW3).trans q2)
      have hz4 : w.heap.size < w4.heap.size := by have := q2.size; omega
      have hl4 : (A3 ++ [13, 10]).length = A3.length + 2 := by simp
      clear q1 q2 HB3 HW3
      generalize A3 ++ [13, 10] = A4 at *
      go_wp2_with fail
      refine (write_any w.heap.size w.heap.size A4 b _ (unhide HB4) (by omega) (by omega)).mono ?_
      rintro e w5 ⟨rfl, q1, q2, _⟩
      have HB5 := hide q1
      have HW5 := hide ((unhide HW4).trans q2)
      have hz5 : w.heap.size < w5.heap.size := by have := q2.size; omega
      clear q1 q2 HB4 HW4
      go_wp2_with fail
      refine (Tryz.Builder_String_any_k w.heap.size w.heap.size (A4 ++ b) w5 (unhide HB5) (by omega)).mono ?_
      rintro e w6 ⟨rfl, _, k2, _⟩
      go_wp2
      go_ret
      exact ⟨by rw [unhide HL]; rfl, (unhide HW5).trans k2⟩
end Go.Proofs.YthlacailhfhjnaaGreatDoor
namespace Go.Proofs.YthlacailhfhjnaaGreatDoor
open Go.RowKit Go.Lib
def mline (m p : Bs) : Bs := m ++ [32] ++ p ++ [32] ++ vers
def may (m : Ms) : Bool := meth m.m && pth m.p && flw m.hs m.b
def pmsg (m : Ms) : Bs × Nat := if may m then (lay (mline m.m m.p) m.hs m.b, 0) else ([], 55)
theorem hsum_le (hs : List Fl) (h : hs.all hdr = true) : hsum hs ≤ 1002 * hs.length := by
  induction hs with
  | nil => simp [hsum]
  | cons f l ih =>
    simp only [List.all_cons, Bool.and_eq_true] at h
    have hf := h.1
    unfold hdr at hf
    simp only [Bool.and_eq_true, decide_eq_true_eq] at hf
    have := ih h.2
    have h1 := hf.1.1.1.1
    simp only [hsum, List.length_cons]
    omega
theorem flw_len {hs : List Fl} {b : Bs} (h : flw hs b = true) : (hlns hs).length ≤ 32064 ∧ hs.length ≤ 32 ∧ b.length ≤ 4000 := by
  unfold flw at h
  simp only [Bool.and_eq_true, decide_eq_true_eq] at h
  have := hsum_le hs h.2
  rw [hlns_len]
  omega
theorem meth_len {s : Bs} (h : meth s = true) : s.length ≤ 16 := by
  unfold meth at h
  simp only [Bool.and_eq_true, decide_eq_true_eq] at h
  exact h.1.2
theorem pth_len {s : Bs} (h : pth s = true) : s.length ≤ 200 := by
  unfold pth at h
  simp only [Bool.and_eq_true, decide_eq_true_eq] at h
  exact h.1.1
set_option maxHeartbeats 8000000 in
set_option maxRecDepth 8000 in
theorem printMessage_any {B : Nat} (m : Ms) (a : Option Addr) (n cap : Nat) (w : World) (hp : Fls w a n m.hs) (hE : Env B w) (hL : Lens m.hs) (h1 : m.m.length ≤ 140737488351232) (h2 : m.p.length ≤ 140737488351232) (h3 : m.b.length ≤ 140737488351232) (hn : n ≤ 140737488351232) :
    Calls Tryz.prog 31 #[.agg #[S m.m, S m.p, .slice a n cap, S m.b]] w fun e w' => e = .returned (.tuple #[S (pmsg m).1, .int .i64 (pmsg m).2]) ∧ Below w.heap.size w w' := by
  obtain ⟨mm, mp, mh, mb⟩ := m
  simp only at hp hL h1 h2 h3 ⊢
  have HM := hide (fun W => isMethod_any mm W (by omega))
  have HP := hide (fun W => isPath_any mp W (by omega))
  have b0 : Below w.heap.size w (w.alloc (.cells #[S mm, S mp, .slice a n cap, S mb] 24)) := (Below.refl _ _).alloc (Nat.le_refl _) _
  have HF := hide (fun W (h : Below w.heap.size w W) => mayFollow_any a n cap mh mb W (hp.below h) hL hn (by omega))
  have HLY := hide (fun W (h : Below w.heap.size w W) (first : Bs) (g1 : first.length ≤ 1000000000000) (g2 : (hlns mh).length ≤ 1000000000000) (g3 : mb.length ≤ 1000000000000) (g4 : n ≤ 1000000000000) => lay_any first a n cap mh mb W (hp.below h) (hE.mono.below h) g1 g2 g3 g4)
  have HNL := hide hp.1
  have HB0 := hide b0
  have HX : Hid (pmsg ⟨mm, mp, mh, mb⟩ = if meth mm && pth mp && flw mh mb then (lay (mline mm mp) mh mb, 0) else ([], 55)) := hide rfl
  generalize pmsg ⟨mm, mp, mh, mb⟩ = X at *
  clear hp hE hL b0
  by_cases hm : meth mm = true
  case neg =>
    have hm' : meth mm = false := by simpa using hm
    rw [hm'] at HM HX
    have hX : X = ([], 55) := by rw [unhide HX]; rfl
    subst hX
    go_enter Tryz.func31, Tryz.ntmps31
    go_wp2_with (first | (go_at_call 62; refine (unhide HM _).mono ?_; rintro e w' ⟨rfl, hw⟩; rw [hw]; clear hw w'))
    go_ret2
    exact ⟨rfl, unhide HB0⟩
  have hml := meth_len hm
  rw [hm] at HM HX
  by_cases hp : pth mp = true
  case neg =>
    have hp' : pth mp = false := by simpa using hp
    rw [hp'] at HP HX
    have hX : X = ([], 55) := by rw [unhide HX]; rfl
    subst hX
    go_enter Tryz.func31, Tryz.ntmps31
    go_wp2_with (first | (go_at_call 62; refine (unhide HM _).mono ?_; rintro e w' ⟨rfl, hw⟩; rw [hw]; clear hw w') | (go_at_call 63; refine (unhide HP _).mono ?_; rintro e w' ⟨rfl, hw⟩; rw [hw]; clear hw w'))
    go_ret2
    exact ⟨rfl, unhide HB0⟩
  have hpl := pth_len hp
  rw [hp] at HP HX
  by_cases hf : flw mh mb = true
  case neg =>
    have hf' : flw mh mb = false := by simpa using hf
    rw [hf'] at HF HX
    have hX : X = ([], 55) := by rw [unhide HX]; rfl
    subst hX
    go_enter Tryz.func31, Tryz.ntmps31
    go_wp2_with (first | (go_at_call 62; refine (unhide HM _).mono ?_; rintro e w' ⟨rfl, hw⟩; rw [hw]; clear hw w') | (go_at_call 63; refine (unhide HP _).mono ?_; rintro e w' ⟨rfl, hw⟩; rw [hw]; clear hw w'))
    refine (unhide HF _ (unhide HB0)).mono ?_
    rintro e w2 ⟨rfl, b2⟩
    have HB2 := hide ((unhide HB0).trans (b2.mono (by simp)))
    clear b2
    go_wp2
    go_ret2
    exact ⟨rfl, unhide HB2⟩
  have hfl := flw_len hf
  rw [hf] at HF HX
  have hX : X = (lay (mline mm mp) mh mb, 0) := by rw [unhide HX]; rfl
  have HXX := hide hX
  have HMX := hide (show ((((ByteArray.mk mm.toArray ++ ByteArray.mk #[32]) ++ ByteArray.mk mp.toArray) ++ ByteArray.mk #[32]) ++ ByteArray.mk #[72, 84, 84, 80, 47, 49, 46, 49]) = ⟨(mline mm mp).toArray⟩ from by
    show ((((ByteArray.mk mm.toArray ++ ByteArray.mk [32].toArray) ++ ByteArray.mk mp.toArray) ++ ByteArray.mk [32].toArray) ++ ByteArray.mk [72, 84, 84, 80, 47, 49, 46, 49].toArray) = _
    rw [ba_append, ba_append, ba_append, ba_append]
    rfl)
  have hmll : (mline mm mp).length ≤ 1000000000000 := by simp [mline, vers]; omega
  have HLY2 := hide (fun W h => unhide HLY W h (mline mm mp) hmll (by omega) (by omega) (by have := unhide HNL; omega))
  clear hX HX HLY hm hp hf
  go_enter Tryz.func31, Tryz.ntmps31
  go_wp2_with (first | (go_at_call 62; refine (unhide HM _).mono ?_; rintro e w' ⟨rfl, hw⟩; rw [hw]; clear hw w') | (go_at_call 63; refine (unhide HP _).mono ?_; rintro e w' ⟨rfl, hw⟩; rw [hw]; clear hw w'))
  refine (unhide HF _ (unhide HB0)).mono ?_
  rintro e w2 ⟨rfl, b2⟩
  have HB2 := hide ((unhide HB0).trans (b2.mono (by simp)))
  have hblk := (b2.block w.heap.size (by simp)).trans (heap_alloc_new w (.cells #[S mm, S mp, .slice a n cap, S mb] 24))
  have d0 : w2.cell? ⟨w.heap.size, 0, none⟩ = some (S mm) := cell_of_row w2 _ 0 _ 24 (0, 0) hblk
  have d1 : w2.cell? ⟨w.heap.size, 1, none⟩ = some (S mp) := cell_of_row w2 _ 1 _ 24 (0, 0) hblk
  have d2 : w2.cell? ⟨w.heap.size, 2, none⟩ = some (.slice a n cap) := cell_of_row w2 _ 2 _ 24 (0, 0) hblk
  have d3 : w2.cell? ⟨w.heap.size, 3, none⟩ = some (S mb) := cell_of_row w2 _ 3 _ 24 (0, 0) hblk
  clear b2 hblk
  go_wp2_with fail
  rw [unhide HMX]
  refine (unhide HLY2 w2 (unhide HB2)).mono ?_
  rintro e w3 ⟨rfl, b3⟩
  have HB3 := hide ((unhide HB2).trans (b3.mono (unhide HB2).size))
  clear b3
  go_wp2
  go_ret2
  exact ⟨by rw [unhide HXX]; rfl, unhide HB3⟩
end Go.Proofs.YthlacailhfhjnaaGreatDoor

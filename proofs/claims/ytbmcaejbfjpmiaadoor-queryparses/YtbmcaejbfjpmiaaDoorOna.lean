import Derived.Test.YtbmcaejbfjpmiaaDoorFls
namespace Go.Proofs.YtbmcaejbfjpmiaaDoor
open Go.RowKit Go.Lib
/-- Those that have a name. -/
def named (name : List UInt8) (fs : List Fl) : List Fl := fs.filter (fun f => f.1 == name)
def oneOf : List Fl → Rs (List UInt8)
  | [] => .error (33, 0)
  | [f] => .ok f.2
  | _ => .error (34, 0)
def one (fs : List Fl) (name : List UInt8) : Rs (List UInt8) := oneOf (named name fs)
theorem named_at (name : List UInt8) (fs : List Fl) (k : Nat) (h : k < fs.length) : named name (fs.take (k + 1)) = named name (fs.take k) ++ (if (fs.getD k f0).1 = name then [fs.getD k f0] else []) := by
  unfold named
  rw [List.take_succ_eq_append_getElem h, List.filter_append]
  congr 1
  have e : fs.getD k f0 = fs[k] := by simp [h]
  rw [e]
  by_cases q : fs[k].1 = name
  · simp [q]
  · simp [q]
theorem named_split (name : List UInt8) (fs : List Fl) (k : Nat) : named name fs = named name (fs.take k) ++ named name (fs.drop k) := by
  unfold named
  rw [← List.filter_append, List.take_append_drop]
theorem clone_any (l : List UInt8) (w : World) (hl : l.length ≤ 281474976710656) : Calls Tryd.prog 35 #[S l] w fun e w' => e = .returned (S l) ∧ Below w.heap.size w w' := by
  go_enter Tryd.func35, Tryd.ntmps35
  go_wp2_with (go_at_call 43; refine (Tryd.stringslite_Clone _ _ (by simp [ByteArray.size]; omega)).mono ?_; rintro e w' ⟨rfl, hb⟩)
  go_ret
  exact ⟨rfl, hb⟩
set_option maxHeartbeats 4000000 in
set_option maxRecDepth 8000 in
theorem refOne_any (a : Option Addr) (n cap : Nat) (fs : List Fl) (name : List UInt8) (w : World) (hp : Fls w a n fs) (hs : siz fs ≤ 100000000000000) :
    Calls Tryd.prog 22 #[.slice a n cap, S name] w fun e w' => e = .returned (tell2 (one fs name)) ∧ Below w.heap.size w w' := by
  have HP := hide hp
  have HN := hide hp.1
  have hnl : n ≤ siz fs := by have := siz_len fs; have := hp.1; omega
  clear hp
  obtain ⟨T, hT⟩ : ∃ T, T = tell2 (one fs name) := ⟨_, rfl⟩
  rw [← hT]
  have HT := hide hT
  clear hT
  go_enter Tryd.func22, Tryd.ntmps22
  go_wp2
  go_loopw [6, 7, 8] (fun c v i wr => ∃ k : Nat, k ≤ n ∧ i = .int .i64 k ∧ c = .int .i64 (named name (fs.take k)).length ∧ v = S ((named name (fs.take k)).getLast?.getD f0).2 ∧ Below w.heap.size w wr) (fun _ _ i _ => n - (Go.RowKit.intOf i).toNat)
  case atStart => exact ⟨0, by omega, rfl, rfl, rfl, Below.refl _ _⟩
  case round =>
    obtain ⟨k, hk, rfl, rfl, rfl, hbr⟩ := hrel
    by_cases hlt : k < n
    · obtain ⟨p, o, rfl, hpl, hc0, hc1⟩ := ((unhide HP).below hbr).at hlt
      have hna := hide (named_at name fs k (by have := unhide HN; omega))
      have hln : (named name (fs.take k)).length ≤ n := by
        have h1 := List.length_filter_le (fun f : Fl => f.1 == name) (fs.take k)
        rw [List.length_take] at h1
        unfold named
        omega
      generalize fs.getD k f0 = F at *
      obtain ⟨fn, fv⟩ := F
      simp only at hc0 hc1
      generalize named name (fs.take k) = M at *
      have hlt' : (k : Int) < (n : Int) := by omega
      by_cases hq : fn = name
      · subst hq
        rw [if_pos rfl] at hna
        have hna2 := hide (show (named fn (fs.take (k + 1))).length = M.length + 1 ∧ ((named fn (fs.take (k + 1))).getLast?.getD f0).2 = fv by
          rw [unhide hna]
          constructor
          · simp
          · simp)
        clear hna
        go_wp2
        refine ⟨⟨k + 1, by omega, by go_num, ?_, ?_, hbr⟩, ?_⟩
        · rw [(unhide hna2).1]
          go_num
        · rw [(unhide hna2).2]
        · simp [Go.RowKit.intOf]; omega
      · rw [if_neg hq, List.append_nil] at hna
        have hq2 : (fn == name) = false := by simpa using hq
        clear hq
        go_wp2
        refine ⟨⟨k + 1, by omega, by go_num, ?_, ?_, hbr⟩, ?_⟩
        · rw [unhide hna]
        · rw [unhide hna]
        · simp [Go.RowKit.intOf]; omega
    · have hd : decide (k < n) = false := by simp; omega
      have e : fs.take k = fs := List.take_of_length_le (by have := unhide HN; omega)
      rw [e]
      have hd2 : ¬ (k : Int) < (n : Int) := by omega
      clear e
      have hln : (named name fs).length ≤ 100000000000000 := by
        have h1 := List.length_filter_le (fun f : Fl => f.1 == name) fs
        have := unhide HN
        unfold named
        omega
      have hT2 : T = tell2 (oneOf (named name fs)) := unhide HT
      match hM : named name fs, hln with
      | [], _ =>
        rw [hM] at hT2
        have HT2 := hide hT2
        clear hT2
        go_wp2
        go_ret2
        exact ⟨ret_of (unhide HT2), hbr⟩
      | [f], _ =>
        rw [hM] at hT2
        have HT2 := hide hT2
        clear hT2
        go_wp2
        go_ret2
        exact ⟨ret_of (unhide HT2), hbr⟩
      | f :: g :: l, hln =>
        rw [hM] at hT2
        have HT2 := hide hT2
        clear hT2 hM
        have h0 : ¬ (((f :: g :: l).length : Nat) : Int) = 0 := by simp; omega
        have h1 : ¬ (((f :: g :: l).length : Nat) : Int) = 1 := by simp; omega
        generalize (f :: g :: l).length = q at *
        generalize ((f :: g :: l).getLast?.getD f0).2 = v at *
        go_wp2
        go_ret2
        exact ⟨ret_of (unhide HT2), hbr⟩
set_option maxHeartbeats 4000000 in
set_option maxRecDepth 8000 in
theorem qOne_any (a : Option Addr) (n cap : Nat) (fs : List Fl) (name : List UInt8) (w : World) (hp : Fls w a n fs) (hs : siz fs ≤ 100000000000000) :
    Calls Tryd.prog 21 #[.slice a n cap, S name] w fun e w' => e = .returned (tell2 (one fs name)) ∧ Below w.heap.size w w' := by
  have HP := hide hp
  have HN := hide hp.1
  have hnl : n ≤ siz fs := by have := siz_len fs; have := hp.1; omega
  clear hp
  obtain ⟨T, hT⟩ : ∃ T, T = tell2 (one fs name) := ⟨_, rfl⟩
  rw [← hT]
  have HT := hide hT
  clear hT
  go_enter Tryd.func21, Tryd.ntmps21
  go_wp2
  go_loopw [6, 11] (fun c i wr => ∃ k : Nat, k ≤ n ∧ i = .int .i64 k ∧ ((c = .int .i64 (-1) ∧ named name (fs.take k) = []) ∨ ∃ j : Nat, j < k ∧ c = .int .i64 j ∧ named name (fs.take k) = [fs.getD j f0]) ∧ Below w.heap.size w wr) (fun _ i _ => n - (Go.RowKit.intOf i).toNat)
  case atStart => exact ⟨0, by omega, rfl, .inl ⟨rfl, rfl⟩, Below.refl _ _⟩
  case round =>
    obtain ⟨k, hk, rfl, hor, hbr⟩ := hrel
    by_cases hlt : k < n
    · obtain ⟨p, o, rfl, hpl, hc0, hc1⟩ := ((unhide HP).below hbr).at hlt
      have hna := hide (named_at name fs k (by have := unhide HN; omega))
      have hsp := hide (named_split name fs (k + 1))
      have hFk := hide (rfl : fs.getD k f0 = fs.getD k f0)
      have hb2 := hide (hbr.alloc (o := Obj.cells #[S (fs.getD k f0).1, S (fs.getD k f0).2] 44) hbr.size)
      generalize hF : fs.getD k f0 = F at *
      have HF := hide hF
      clear hF hFk
      obtain ⟨fn, fv⟩ := F
      simp only at hc0 hc1
      have hlt' : (k : Int) < (n : Int) := by omega
      by_cases hq : fn = name
      · subst hq
        rw [if_pos rfl] at hna
        rcases hor with ⟨rfl, hM⟩ | ⟨j, hj, rfl, hM⟩
        · have hna2 := hide (show named fn (fs.take (k + 1)) = [fs.getD k f0] by rw [unhide hna, hM, unhide HF]; rfl)
          clear hna hM
          go_wp2
          refine ⟨⟨k + 1, by omega, by go_num, .inr ⟨k, by omega, rfl, unhide hna2⟩, unhide hb2⟩, ?_⟩
          simp [Go.RowKit.intOf]; omega
        · have hT2 : T = .tuple #[.string ⟨#[]⟩, .int .i64 34] := by
            rw [unhide HT]
            unfold one
            rw [unhide hsp, unhide hna, hM]
            rfl
          have HT2 := hide hT2
          clear hna hM hT2
          have hj0 : (0 : Int) ≤ (j : Int) := by omega
          go_wp2
          go_ret2
          exact ⟨ret_of (unhide HT2), unhide hb2⟩
      · rw [if_neg hq, List.append_nil] at hna
        have hq2 : (fn == name) = false := by simpa using hq
        clear hq
        rcases hor with ⟨rfl, hM⟩ | ⟨j, hj, rfl, hM⟩
        · have hna2 := hide (show named name (fs.take (k + 1)) = [] by rw [unhide hna, hM])
          clear hna hM
          go_wp2
          refine ⟨⟨k + 1, by omega, by go_num, .inl ⟨rfl, unhide hna2⟩, unhide hb2⟩, ?_⟩
          simp [Go.RowKit.intOf]; omega
        · have hna2 := hide (show named name (fs.take (k + 1)) = [fs.getD j f0] by rw [unhide hna, hM])
          clear hna hM
          go_wp2
          refine ⟨⟨k + 1, by omega, by go_num, .inr ⟨j, by omega, rfl, unhide hna2⟩, unhide hb2⟩, ?_⟩
          simp [Go.RowKit.intOf]; omega
    · have hd : decide (k < n) = false := by simp; omega
      have e : fs.take k = fs := List.take_of_length_le (by have := unhide HN; omega)
      rw [e] at hor
      have hd2 : ¬ (k : Int) < (n : Int) := by omega
      clear e
      rcases hor with ⟨rfl, hM⟩ | ⟨j, hj, rfl, hM⟩
      · have hT2 : T = .tuple #[.string ⟨#[]⟩, .int .i64 33] := by
          rw [unhide HT]
          unfold one
          rw [hM]
          rfl
        have HT2 := hide hT2
        clear hM hT2
        go_wp2
        go_ret2
        exact ⟨ret_of (unhide HT2), hbr⟩
      · obtain ⟨p, o, rfl, hpl, hc0, hc1⟩ := ((unhide HP).below hbr).at (show j < n by omega)
        have hT2 : T = .tuple #[S (fs.getD j f0).2, .int .i64 0] := by
          rw [unhide HT]
          unfold one
          rw [hM]
          rfl
        have HT2 := hide hT2
        have hl2 := siz_get fs j
        clear hM hT2
        generalize fs.getD j f0 = F at *
        obtain ⟨fn, fv⟩ := F
        simp only at hc0 hc1 hl2
        have hj0 : ¬ (j : Int) < 0 := by omega
        have hj1 : (j : Int) < (n : Int) := by omega
        go_wp2_with fail
        refine (clone_any fv wr (by omega)).mono ?_
        rintro e w' ⟨rfl, hb⟩
        go_wp2
        go_ret2
        exact ⟨ret_of (unhide HT2), hbr.trans (hb.mono hbr.size)⟩
end Go.Proofs.YtbmcaejbfjpmiaaDoor

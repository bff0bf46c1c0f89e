import Derived.Test.YtbeionikiiccpaaGreatDoorUns
namespace Go.Proofs.YtbeionikiiccpaaGreatDoor
open Go.RowKit Go.Lib
namespace Four
def read (s : Six.Rd) (v : Nat) : Six.Rd :=
  match s.have_ with
  | 0 => ⟨s.out, v, 4⟩
  | _ => ⟨s.out ++ [UInt8.ofNat (s.bits * 16 + v)], 0, 0⟩
def readAll (v : List Nat) : Six.Rd := v.foldl read ⟨[], 0, 0⟩
def FitR (s : Six.Rd) : Prop := (s.have_ = 0 ∧ s.bits = 0) ∨ (s.have_ = 4 ∧ s.bits < 16)
theorem fit_read {s : Six.Rd} (h : FitR s) (v : Nat) (hv : v < 16) : FitR (read s v) := by
  obtain ⟨o, n, k⟩ := s
  rcases h with ⟨h1, h2⟩ | ⟨h1, h2⟩ <;> simp only at h1 h2 <;> subst h1
  · exact .inr ⟨rfl, hv⟩
  · exact .inl ⟨rfl, rfl⟩
theorem fit_foldR (l : List Nat) : (∀ v ∈ l, v < 16) → ∀ s, FitR s → FitR (l.foldl read s) := by
  induction l with
  | nil => intro _ s h; exact h
  | cons b l ih => intro hl s h; exact ih (fun v hv => hl v (List.mem_cons_of_mem _ hv)) _ (fit_read h b (hl b (List.mem_cons_self ..)))
theorem fit_readAll (l : List Nat) (hl : ∀ v ∈ l, v < 16) : FitR (readAll l) := fit_foldR l hl _ (.inl ⟨rfl, rfl⟩)
theorem readAll_snoc (l : List Nat) (b : Nat) : readAll (l ++ [b]) = read (readAll l) b := by simp [readAll]
theorem read_len (l : List Nat) : ∀ T : Six.Rd, (l.foldl read T).out.length ≤ T.out.length + l.length := by
  induction l with
  | nil => intro T; simp
  | cons b l ih =>
    intro T
    have h1 := ih (read T b)
    have h2 : (read T b).out.length ≤ T.out.length + 1 := by
      unfold read
      split <;> simp
    simp only [List.foldl_cons, List.length_cons]
    omega
theorem readAll_len (l : List Nat) : (readAll l).out.length ≤ l.length := by
  have := read_len l ⟨[], 0, 0⟩
  simpa [readAll] using this
end Four
/-- What unspell reads of signs of four bits. -/
def un4 (A t : List UInt8) : Option (List UInt8) :=
  if allin A t ∧ (Four.readAll (t.map (pl A))).have_ < 4 ∧ (Four.readAll (t.map (pl A))).bits = 0 then some (Four.readAll (t.map (pl A))).out else none
theorem un4_no {A t : List UInt8} (h : ¬ (allin A t ∧ (Four.readAll (t.map (pl A))).have_ < 4 ∧ (Four.readAll (t.map (pl A))).bits = 0)) : un4 A t = none := by unfold un4; rw [if_neg h]
theorem un4_yes {A t : List UInt8} (h : allin A t ∧ (Four.readAll (t.map (pl A))).have_ < 4 ∧ (Four.readAll (t.map (pl A))).bits = 0) : un4 A t = some (Four.readAll (t.map (pl A))).out := by unfold un4; rw [if_pos h]
set_option maxHeartbeats 4000000 in
set_option maxRecDepth 8000 in
theorem unspell4_any (t A : List UInt8) (w : World) (ht : t.length ≤ 17592186044416) (hA : A.length = 16) :
    Calls Tryz.prog 72 #[.string ⟨t.toArray⟩, .string ⟨A.toArray⟩, .int .i64 4] w fun e w' => e = .returned (told2 (un4 A t)) ∧ Below w.heap.size w w' := by
  go_enter Tryz.func72, Tryz.ntmps72
  go_wp2_with (refine makeBuf rfl (.const (.int .i64 0)) (.tmp 17) rfl _ (t.length * 4 / 8) (by rfl) (by rfl) (by omega) (by omega) ?_; intro w1 v1 hb1)
  go_loopw [8, 9, 10, 21] (fun v b h i wr => ∃ k : Nat, k ≤ t.length ∧ i = .int .i64 k ∧ b = .int .i64 (Four.readAll ((t.take k).map (pl A))).bits ∧ h = .int .i64 (Four.readAll ((t.take k).map (pl A))).have_ ∧ allin A (t.take k) ∧ Own w.heap.size v (Four.readAll ((t.take k).map (pl A))).out w wr) (fun _ _ _ i _ => t.length - (intOf i).toNat)
  case atStart => exact ⟨0, by omega, rfl, rfl, rfl, (by intro c hc; simp at hc), hb1⟩
  case round =>
    clear hb1
    obtain ⟨k, hk, rfl, rfl, rfl, hall, hb⟩ := hrel
    have hfit := Four.fit_readAll ((t.take k).map (pl A)) (by rw [← hA]; exact allin_map hall)
    by_cases hlt : k < t.length
    · by_cases hin : 0 ≤ indexByte A t[k]
      · have hallk : allin A (t.take (k + 1)) := by
          rw [take_snoc t k hlt]
          intro c hc
          rcases List.mem_append.1 hc with hc | hc
          · exact hall c hc
          · simp at hc; rw [hc]; exact hin
        have HALL := hide hallk
        have hnx := hide (show Four.readAll ((t.take (k + 1)).map (pl A)) = Four.read (Four.readAll ((t.take k).map (pl A))) (pl A t[k]) by rw [take_snoc t k hlt, List.map_append, ← Four.readAll_snoc]; rfl)
        have hol := Four.readAll_len ((t.take k).map (pl A))
        have hol2 : (Four.readAll ((t.take k).map (pl A))).out.length ≤ t.length := by rw [List.length_map, List.length_take] at hol; omega
        have hpl := pl_lt A t[k] hin
        rw [hA] at hpl
        have HPI := hide (pl_int hin)
        clear hol hall hallk hin
        generalize Four.readAll ((t.take k).map (pl A)) = T at *
        generalize pl A t[k] = P at *
        obtain ⟨O, n, hv⟩ := T
        simp only at hb hol2
        have HB := hide hb
        have HF := hide hfit
        have hn : n < 16 := by rcases hfit with ⟨h1, h2⟩ | ⟨h1, h2⟩ <;> simp only at h1 h2 <;> omega
        clear hb hfit
        have hor := or4 n P (by omega) hpl
        obtain ⟨M, hM⟩ : ∃ M, n * 16 + P = M := ⟨_, rfl⟩
        rw [hM] at hor
        have HM := hide hM
        rcases unhide HF with ⟨h1, h2⟩ | ⟨h1, h2⟩
        · simp only at h1 h2
          subst h1
          have hM1 : M < 16 := by omega
          have hPM : P = M := by omega
          have HT : Hid (Four.readAll ((t.take (k + 1)).map (pl A)) = ⟨O, M, 4⟩) := hide (by rw [unhide hnx]; simp only [Four.read]; rw [hPM])
          clear HF h2 hM hPM
          go_wp2_with (go_at_call 82; refine (indexByte_any A t[k] _).mono ?_; rintro e w' ⟨rfl, rfl⟩; rw [unhide HPI])
          go_roundw
          case rel => exact ⟨k + 1, by omega, by go_num, by rw [unhide HT], by rw [unhide HT]; rfl, unhide HALL, by rw [unhide HT]; exact unhide HB⟩
          case measure => simp [intOf]; omega
        · simp only at h1 h2
          subst h1
          have hM1 : M < 256 := by omega
          have HT : Hid (Four.readAll ((t.take (k + 1)).map (pl A)) = ⟨O ++ [UInt8.ofNat M], 0, 0⟩) := hide (by rw [unhide hnx]; simp only [Four.read]; rw [unhide HM])
          clear HF h2 hM
          go_wp2_with (first | (go_at_call 82; refine (indexByte_any A t[k] _).mono ?_; rintro e w' ⟨rfl, rfl⟩; rw [unhide HPI]) | (at_builtin; refine push rfl (.tmp 43) (.tmp 48) rfl w.heap.size _ O (by rfl) w _ _ (UInt8.ofNat M) (by have := Six.toNat_ofNat M (by omega); omega) (unhide HB) (by rfl) (by omega) ?_; intro v2 w2 hb2))
          go_roundw
          case rel => exact ⟨k + 1, by omega, by go_num, by rw [and0 M (by omega), unhide HT]; rfl, by rw [unhide HT]; rfl, unhide HALL, by rw [unhide HT]; exact hb2⟩
          case measure => simp [intOf]; omega
      · have hno := hide (un4_no (A := A) (t := t) (fun h => hin (h.1 t[k] (List.getElem_mem hlt))))
        have hb2 := hb.2.1
        have hneg : indexByte A t[k] < 0 := by omega
        clear hall hfit hin hb
        generalize Four.readAll ((t.take k).map (pl A)) = T at *
        go_wp2_with (go_at_call 82; refine (indexByte_any A t[k] _).mono ?_; rintro e w' ⟨rfl, rfl⟩)
        go_ret2
        exact ⟨ret_no (unhide hno), hb2⟩
    · have hkl : t.take k = t := List.take_of_length_le (by omega)
      have hd : decide (k < t.length) = false := by simp; omega
      rw [hkl] at hall hb hfit ⊢
      have HN := hide (fun h => un4_no (A := A) (t := t) h)
      have HY := hide (fun h => un4_yes (A := A) (t := t) h)
      have HALL := hide hall
      clear hkl hall
      generalize Four.readAll (t.map (pl A)) = T at *
      obtain ⟨O, n, hv⟩ := T
      simp only at hb
      have HB := hide hb
      have HX := hide hb.text
      clear hb
      by_cases hbad : 4 ≤ hv
      · have hno := hide (unhide HN (fun h => by have := h.2.1; simp only at this; omega))
        have hd2 : decide (4 ≤ hv) = true := by simpa using hbad
        clear hfit HN HY
        go_wp2
        go_ret2
        exact ⟨ret_no (unhide hno), (unhide HB).2.1⟩
      · by_cases hz : n = 0
        · subst hz
          have hyes := hide (unhide HY ⟨unhide HALL, by simp only; omega, rfl⟩)
          clear hfit HN HY
          go_wp2_with (refine wpList_conv rfl 49 9 (.tmp 63) rfl _ _ (by rfl) (unhide HX) ?_)
          go_ret2
          exact ⟨ret_yes (unhide hyes), (unhide HB).2.1⟩
        · have hno := hide (unhide HN (fun h => hz h.2.2))
          have hz' : ((n : Int) != 0) = true := by simp; omega
          clear hfit HN HY
          go_wp2
          go_ret2
          exact ⟨ret_no (unhide hno), (unhide HB).2.1⟩
end Go.Proofs.YtbeionikiiccpaaGreatDoor

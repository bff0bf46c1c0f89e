import Derived.Test.YtbeionikiiccpaaGreatDoorZspl
import Derived.Lib.Bytealg
namespace Go.Proofs.YtbeionikiiccpaaGreatDoor
open Go.RowKit Go.Lib
theorem ibyte_lt (A : List UInt8) (c : UInt8) : indexByte A c < A.length := by
  induction A with
  | nil => unfold indexByte; simp
  | cons b l ih =>
    unfold indexByte
    simp only [List.length_cons]
    split
    · omega
    · split <;> omega
theorem ibyte_at (A : List UInt8) (c : UInt8) : 0 ≤ indexByte A c → A.getD (indexByte A c).toNat 0 = c := by
  induction A with
  | nil => unfold indexByte; simp
  | cons b l ih =>
    intro h
    have hge := indexByte_ge l c
    unfold indexByte at h ⊢
    by_cases e : b = c
    · simp [e]
    · have e' : (b == c) = false := by simpa using e
      simp only [e', Bool.false_eq_true, if_false] at h ⊢
      by_cases q : indexByte l c = -1
      · simp [q] at h
      · have q' : (indexByte l c == -1) = false := by simpa using q
        simp only [q', Bool.false_eq_true, if_false] at h ⊢
        rw [show (indexByte l c + 1).toNat = (indexByte l c).toNat + 1 by omega, List.getD_cons_succ]
        exact ih (by omega)
set_option maxHeartbeats 1000000 in
set_option maxRecDepth 100000 in
theorem indexByte_any (A : List UInt8) (c : UInt8) (w : World) :
    Calls Tryz.prog 82 #[.string ⟨A.toArray⟩, .int .u8 (c.toNat : Int)] w fun e w' => e = .returned (.int .i64 (indexByte A c)) ∧ w' = w := by
  go_enter Tryz.func82, Tryz.ntmps82
  go_wp2
  rw [run_callFunc_extern Tryz.func89 (by kernel_rfl) (by kernel_rfl) (by kernel_rfl) (e := Extern.BytealgIndexByte.indexByte) (by kernel_rfl), Lib.run_indexByteString]
  simp only [Result.andThen]
  rw [Oper.upon_value]
  go_wp2
  go_ret
  refine ⟨?_, rfl⟩
  simp
def pl (A : List UInt8) (c : UInt8) : Nat := (indexByte A c).toNat
abbrev allin (A t : List UInt8) : Prop := ∀ c ∈ t, 0 ≤ indexByte A c
theorem pl_int {A : List UInt8} {c : UInt8} (h : 0 ≤ indexByte A c) : indexByte A c = (pl A c : Int) := by unfold pl; omega
theorem pl_lt (A : List UInt8) (c : UInt8) (h : 0 ≤ indexByte A c) : pl A c < A.length := by have := ibyte_lt A c; unfold pl; omega
theorem allin_map {A t : List UInt8} (h : allin A t) : ∀ v ∈ t.map (pl A), v < A.length := by
  intro v hv
  obtain ⟨c, hc, rfl⟩ := List.mem_map.1 hv
  exact pl_lt A c (h c hc)
theorem or6 (n v : Nat) (h : n < 35184372088832) (hv : v < 64) : bits .or .i64 ((n : Int) * 64) (v : Int) = ((n * 64 + v : Nat) : Int) := or_add 6 n v (by omega) (by omega)
theorem or4 (n v : Nat) (h : n < 35184372088832) (hv : v < 16) : bits .or .i64 ((n : Int) * 16) (v : Int) = ((n * 16 + v : Nat) : Int) := or_add 4 n v (by omega) (by omega)
theorem byte_of (n m : Nat) : ((n : Int) / (m : Int) % 256) = ((UInt8.ofNat (n / m)).toNat : Int) := by
  rw [UInt8.toNat_ofNat']
  simp
theorem byte_ofN (n : Nat) : ((n : Int) % 256) = ((UInt8.ofNat n).toNat : Int) := by
  rw [UInt8.toNat_ofNat']
  simp
theorem read_len (l : List Nat) : ∀ T : Six.Rd, (l.foldl Six.read T).out.length ≤ T.out.length + l.length := by
  induction l with
  | nil => intro T; simp
  | cons b l ih =>
    intro T
    have h1 := ih (Six.read T b)
    have h2 : (Six.read T b).out.length ≤ T.out.length + 1 := by
      unfold Six.read
      simp only
      split <;> simp
    simp only [List.foldl_cons, List.length_cons]
    omega
theorem readAll_len (l : List Nat) : (Six.readAll l).out.length ≤ l.length := by
  have := read_len l ⟨[], 0, 0⟩
  simpa [Six.readAll] using this
/-- What unspell reads of signs of six bits. -/
def un6 (A t : List UInt8) : Option (List UInt8) :=
  if allin A t ∧ (Six.readAll (t.map (pl A))).have_ < 6 ∧ (Six.readAll (t.map (pl A))).bits = 0 then some (Six.readAll (t.map (pl A))).out else none
/-- A text and OK, or none and an error. -/
def told2 (r : Option (List UInt8)) : Value := .tuple #[.string ⟨(r.getD []).toArray⟩, .int .i64 (if r.isSome then 0 else 24)]
theorem un6_no {A t : List UInt8} (h : ¬ (allin A t ∧ (Six.readAll (t.map (pl A))).have_ < 6 ∧ (Six.readAll (t.map (pl A))).bits = 0)) : un6 A t = none := by unfold un6; rw [if_neg h]
theorem un6_yes {A t : List UInt8} (h : allin A t ∧ (Six.readAll (t.map (pl A))).have_ < 6 ∧ (Six.readAll (t.map (pl A))).bits = 0) : un6 A t = some (Six.readAll (t.map (pl A))).out := by unfold un6; rw [if_pos h]
theorem ret_no {r : Option (List UInt8)} (h : r = none) : Ending.returned (.tuple #[.string ⟨#[]⟩, .int .i64 24]) = .returned (told2 r) := by rw [h]; rfl
theorem ret_yes {r : Option (List UInt8)} {O : List UInt8} (h : r = some O) : Ending.returned (.tuple #[.string ⟨O.toArray⟩, .int .i64 0]) = .returned (told2 r) := by rw [h]; rfl
set_option maxHeartbeats 4000000 in
set_option maxRecDepth 8000 in
theorem unspell6_any (t A : List UInt8) (w : World) (ht : t.length ≤ 17592186044416) (hA : A.length = 64) :
    Calls Tryz.prog 72 #[.string ⟨t.toArray⟩, .string ⟨A.toArray⟩, .int .i64 6] w fun e w' => e = .returned (told2 (un6 A t)) ∧ Below w.heap.size w w' := by
  go_enter Tryz.func72, Tryz.ntmps72
  go_wp2_with (refine makeBuf rfl (.const (.int .i64 0)) (.tmp 17) rfl _ (t.length * 6 / 8) (by rfl) (by rfl) (by omega) (by omega) ?_; intro w1 v1 hb1)
  go_loopw [8, 9, 10, 21] (fun v b h i wr => ∃ k : Nat, k ≤ t.length ∧ i = .int .i64 k ∧ b = .int .i64 (Six.readAll ((t.take k).map (pl A))).bits ∧ h = .int .i64 (Six.readAll ((t.take k).map (pl A))).have_ ∧ allin A (t.take k) ∧ Own w.heap.size v (Six.readAll ((t.take k).map (pl A))).out w wr) (fun _ _ _ i _ => t.length - (intOf i).toNat)
  case atStart => exact ⟨0, by omega, rfl, rfl, rfl, (by intro c hc; simp at hc), hb1⟩
  case round =>
    clear hb1
    obtain ⟨k, hk, rfl, rfl, rfl, hall, hb⟩ := hrel
    have hfit := Six.fit_readAll ((t.take k).map (pl A)) (by rw [← hA]; exact allin_map hall)
    by_cases hlt : k < t.length
    · by_cases hin : 0 ≤ indexByte A t[k]
      · have hallk : allin A (t.take (k + 1)) := by
          rw [take_snoc t k hlt]
          intro c hc
          rcases List.mem_append.1 hc with hc | hc
          · exact hall c hc
          · simp at hc; rw [hc]; exact hin
        have HALL := hide hallk
        have hnx := hide (show Six.readAll ((t.take (k + 1)).map (pl A)) = Six.read (Six.readAll ((t.take k).map (pl A))) (pl A t[k]) by rw [take_snoc t k hlt, List.map_append, ← Six.readAll_snoc]; rfl)
        have hol := readAll_len ((t.take k).map (pl A))
        have hol2 : (Six.readAll ((t.take k).map (pl A))).out.length ≤ t.length := by rw [List.length_map, List.length_take] at hol; omega
        have hpl := pl_lt A t[k] hin
        rw [hA] at hpl
        have HPI := hide (pl_int hin)
        clear hol hall hallk hin
        generalize Six.readAll ((t.take k).map (pl A)) = T at *
        generalize pl A t[k] = P at *
        obtain ⟨O, n, hv⟩ := T
        simp only at hb hol2
        have HB := hide hb
        have HF := hide hfit
        have hn : n < 64 := by rcases hfit with ⟨h1, h2⟩ | ⟨h1, h2⟩ | ⟨h1, h2⟩ | ⟨h1, h2⟩ <;> simp only at h1 h2 <;> omega
        clear hb hfit
        have hor := or6 n P (by omega) hpl
        obtain ⟨M, hM⟩ : ∃ M, n * 64 + P = M := ⟨_, rfl⟩
        rw [hM] at hor
        have HM := hide hM
        rcases unhide HF with ⟨h1, h2⟩ | ⟨h1, h2⟩ | ⟨h1, h2⟩ | ⟨h1, h2⟩
        · simp only at h1 h2
          subst h1
          have hM1 : M < 64 := by omega
          have HT : Hid (Six.readAll ((t.take (k + 1)).map (pl A)) = ⟨O, M, 6⟩) := hide (by rw [unhide hnx]; simp only [Six.read]; rw [unhide HM])
          clear HF h2 hM
          go_wp2_with (go_at_call 82; refine (indexByte_any A t[k] _).mono ?_; rintro e w' ⟨rfl, rfl⟩; rw [unhide HPI])
          go_roundw
          case rel => exact ⟨k + 1, by omega, by go_num, by rw [unhide HT], by rw [unhide HT]; rfl, unhide HALL, by rw [unhide HT]; exact unhide HB⟩
          case measure => simp [intOf]; omega
        · simp only at h1 h2
          subst h1
          have hM1 : M < 4096 := by omega
          have HT : Hid (Six.readAll ((t.take (k + 1)).map (pl A)) = ⟨O ++ [UInt8.ofNat (M / 16)], M % 16, 4⟩) := hide (by rw [unhide hnx]; simp only [Six.read]; rw [unhide HM])
          clear HF h2 hM
          go_wp2_with (first | (go_at_call 82; refine (indexByte_any A t[k] _).mono ?_; rintro e w' ⟨rfl, rfl⟩; rw [unhide HPI]) | (at_builtin; refine push rfl (.tmp 43) (.tmp 48) rfl w.heap.size _ O (by rfl) w _ _ (UInt8.ofNat (M / 16)) (by have := Six.toNat_ofNat (M / 16) (by omega); omega) (unhide HB) (by rfl) (by omega) ?_; intro v2 w2 hb2))
          go_roundw
          case rel => exact ⟨k + 1, by omega, by go_num, by rw [and15 M (by omega), unhide HT], by rw [unhide HT]; rfl, unhide HALL, by rw [unhide HT]; exact hb2⟩
          case measure => simp [intOf]; omega
        · simp only at h1 h2
          subst h1
          have hM1 : M < 1024 := by omega
          have HT : Hid (Six.readAll ((t.take (k + 1)).map (pl A)) = ⟨O ++ [UInt8.ofNat (M / 4)], M % 4, 2⟩) := hide (by rw [unhide hnx]; simp only [Six.read]; rw [unhide HM])
          clear HF h2 hM
          go_wp2_with (first | (go_at_call 82; refine (indexByte_any A t[k] _).mono ?_; rintro e w' ⟨rfl, rfl⟩; rw [unhide HPI]) | (at_builtin; refine push rfl (.tmp 43) (.tmp 48) rfl w.heap.size _ O (by rfl) w _ _ (UInt8.ofNat (M / 4)) (by have := Six.toNat_ofNat (M / 4) (by omega); omega) (unhide HB) (by rfl) (by omega) ?_; intro v2 w2 hb2))
          go_roundw
          case rel => exact ⟨k + 1, by omega, by go_num, by rw [and3 M (by omega), unhide HT], by rw [unhide HT]; rfl, unhide HALL, by rw [unhide HT]; exact hb2⟩
          case measure => simp [intOf]; omega
        · simp only at h1 h2
          subst h1
          have hM1 : M < 256 := by omega
          have HT : Hid (Six.readAll ((t.take (k + 1)).map (pl A)) = ⟨O ++ [UInt8.ofNat (M)], 0, 0⟩) := hide (by rw [unhide hnx]; simp only [Six.read]; rw [unhide HM])
          clear HF h2 hM
          go_wp2_with (first | (go_at_call 82; refine (indexByte_any A t[k] _).mono ?_; rintro e w' ⟨rfl, rfl⟩; rw [unhide HPI]) | (at_builtin; refine push rfl (.tmp 43) (.tmp 48) rfl w.heap.size _ O (by rfl) w _ _ (UInt8.ofNat (M)) (by have := Six.toNat_ofNat (M) (by omega); omega) (unhide HB) (by rfl) (by omega) ?_; intro v2 w2 hb2))
          go_roundw
          case rel => exact ⟨k + 1, by omega, by go_num, by rw [and0 M (by omega), unhide HT]; rfl, by rw [unhide HT]; rfl, unhide HALL, by rw [unhide HT]; exact hb2⟩
          case measure => simp [intOf]; omega
      · have hno := hide (un6_no (A := A) (t := t) (fun h => hin (h.1 t[k] (List.getElem_mem hlt))))
        have hb2 := hb.2.1
        have hneg : indexByte A t[k] < 0 := by omega
        clear hall hfit hin hb
        generalize Six.readAll ((t.take k).map (pl A)) = T at *
        go_wp2_with (go_at_call 82; refine (indexByte_any A t[k] _).mono ?_; rintro e w' ⟨rfl, rfl⟩)
        go_ret2
        exact ⟨ret_no (unhide hno), hb2⟩
    · have hkl : t.take k = t := List.take_of_length_le (by omega)
      have hd : decide (k < t.length) = false := by simp; omega
      rw [hkl] at hall hb hfit ⊢
      have HN := hide (fun h => un6_no (A := A) (t := t) h)
      have HY := hide (fun h => un6_yes (A := A) (t := t) h)
      have HALL := hide hall
      clear hkl hall
      generalize Six.readAll (t.map (pl A)) = T at *
      obtain ⟨O, n, hv⟩ := T
      simp only at hb
      have HB := hide hb
      have HX := hide hb.text
      clear hb
      by_cases hbad : 6 ≤ hv
      · have hno := hide (unhide HN (fun h => by have := h.2.1; simp only at this; omega))
        have hd2 : decide (6 ≤ hv) = true := by simpa using hbad
        clear hfit HN HY
        go_wp2
        go_ret2
        exact ⟨ret_no (unhide hno), (unhide HB).2.1⟩
      · by_cases hz : n = 0
        · subst hz
          have hyes := hide (unhide HY ⟨unhide HALL, by simp only; omega, rfl⟩)
          clear hfit HN HY
          go_wp2_with (refine wpList_conv rfl 49 9 (.tmp 63) rfl _ _ (by rfl) (unhide HX) ?_)
          go_ret2
          exact ⟨ret_yes (unhide hyes), (unhide HB).2.1⟩
        · have hno := hide (unhide HN (fun h => hz h.2.2))
          have hz' : ((n : Int) != 0) = true := by simp; omega
          clear hfit HN HY
          go_wp2
          go_ret2
          exact ⟨ret_no (unhide hno), (unhide HB).2.1⟩
end Go.Proofs.YtbeionikiiccpaaGreatDoor

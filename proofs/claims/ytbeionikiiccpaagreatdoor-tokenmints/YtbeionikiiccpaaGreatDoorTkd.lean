import Derived.Test.YtbeionikiiccpaaGreatDoorTkc
import Derived.OwnWalk
namespace Go.Proofs.YtbeionikiiccpaaGreatDoor
open Go.RowKit Go.Lib Sha
set_option maxHeartbeats 4000000
set_option maxRecDepth 8000
/-- The variables of the library and of the package, as they are laid. -/
structure Env (a0 a1 a2 : Addr) (w : World) : Prop where
  c0 : w.cell? ⟨0, 0, none⟩ = some (.iface 148 (.pointer (some a0)))
  c1 : w.cell? ⟨1, 0, none⟩ = some (.iface 148 (.pointer (some a1)))
  c2 : w.cell? ⟨2, 0, none⟩ = some (.iface 148 (.pointer (some a2)))
  lay : Lay w
  n01 : a0 ≠ a1
  n02 : a0 ≠ a2
  n12 : a1 ≠ a2
  b0 : ∃ c t, w.heap[a0.block]? = some (.cells c t (0, 0))
  b1 : ∃ c t, w.heap[a1.block]? = some (.cells c t (0, 0))
  b2 : ∃ c t, w.heap[a2.block]? = some (.cells c t (0, 0))
theorem blk_lt {w : World} {b : Nat} {o : Obj} (h : w.heap[b]? = some o) : b < w.heap.size := (Array.getElem?_eq_some_iff.1 h).1
theorem Env.below {a0 a1 a2 : Addr} {w w' : World} (h : Env a0 a1 a2 w) (hb : Below w.heap.size w w') : Env a0 a1 a2 w' := by
  have hp := h.lay.pos
  have cell : ∀ (j : Nat) (x : Option Value), j < 4 → w.cell? ⟨j, 0, none⟩ = x → w'.cell? ⟨j, 0, none⟩ = x := fun j x hj e => (World.cell?_of_block (hb.block j (by omega))).trans e
  have blk : ∀ a : Addr, (∃ c t, w.heap[a.block]? = some (.cells c t (0, 0))) → ∃ c t, w'.heap[a.block]? = some (.cells c t (0, 0)) := by
    rintro a ⟨c, t, e⟩
    exact ⟨c, t, (hb.block a.block (blk_lt e)).trans e⟩
  exact ⟨cell 0 _ (by omega) h.c0, cell 1 _ (by omega) h.c1, cell 2 _ (by omega) h.c2, h.lay.below hb, h.n01, h.n02, h.n12, blk _ h.b0, blk _ h.b1, blk _ h.b2⟩
/-- What is wrong, as an error. -/
def wrV (a0 a1 a2 : Addr) : Nat → Value
  | 1 => .iface 148 (.pointer (some a0))
  | 2 => .iface 148 (.pointer (some a1))
  | 3 => .iface 148 (.pointer (some a2))
  | _ => .nilIface
/-- What a call of read answers. -/
def rdV (a0 a1 a2 : Addr) (x : Nat × Bs × Nat) : Value := .tuple #[I (x.1 : Int), S x.2.1, wrV a0 a1 a2 x.2.2]
theorem read_other (a0 a1 a2 : Addr) (k : Int) (hk : isK k) (t : Bs) (w : World) (hE : Env a0 a1 a2 w) (h1 : (pre (3 - k)).isPrefixOf t = true) :
    Calls Tryz.prog 39 #[I k, S t] w fun e w' => e = .returned (rdV a0 a1 a2 (0, [], 1)) ∧ Below w.heap.size w w' := by
  have c0 := hE.c0
  have HP := hide (prefixes_any k hk)
  have HH := hide (hasPrefix_any t (pre (3 - k)) w)
  rw [h1] at HH
  clear hE h1 hk
  generalize pre k = p at *
  generalize pre (3 - k) = p' at *
  go_enter Tryz.func39, Tryz.ntmps39
  go_wp2_with (first | (go_at_call 21; refine (unhide HP _).mono ?_; rintro e w' ⟨rfl, rfl⟩) | (go_at_call 53; refine (unhide HH).mono ?_; rintro e w' ⟨rfl, rfl⟩))
  go_quiet (fail)
  all_goals go_wp2
  all_goals (go_ret3; exact ⟨rfl, (Below.refl _ _) |> fun q => ⟨q.os, q.tape, q.output, q.size, q.block⟩⟩)
theorem read_long (a0 a1 a2 : Addr) (k : Int) (hk : isK k) (t : Bs) (w : World) (hE : Env a0 a1 a2 w) (h1 : (pre (3 - k)).isPrefixOf t = false) (h2 : t.length ≠ 52) :
    Calls Tryz.prog 39 #[I k, S t] w fun e w' => e = .returned (rdV a0 a1 a2 (0, [], 2)) ∧ Below w.heap.size w w' := by
  have c1 := hE.c1
  have HP := hide (prefixes_any k hk)
  have HH := hide (hasPrefix_any t (pre (3 - k)) w)
  rw [h1] at HH
  have h2i : ¬ (t.length : Int) = 52 := by omega
  clear hE h1 hk
  generalize pre k = p at *
  generalize pre (3 - k) = p' at *
  go_enter Tryz.func39, Tryz.ntmps39
  go_wp2_with (first | (go_at_call 21; refine (unhide HP _).mono ?_; rintro e w' ⟨rfl, rfl⟩) | (go_at_call 53; refine (unhide HH).mono ?_; rintro e w' ⟨rfl, rfl⟩))
  go_quiet (fail)
  all_goals go_wp2
  all_goals (go_ret3; exact ⟨rfl, (Below.refl _ _) |> fun q => ⟨q.os, q.tape, q.output, q.size, q.block⟩⟩)
theorem read_begin (a0 a1 a2 : Addr) (k : Int) (hk : isK k) (t : Bs) (w : World) (hE : Env a0 a1 a2 w) (h1 : (pre (3 - k)).isPrefixOf t = false) (h2 : t.length = 52) (h3 : (pre k).isPrefixOf t = false) :
    Calls Tryz.prog 39 #[I k, S t] w fun e w' => e = .returned (rdV a0 a1 a2 (0, [], 2)) ∧ Below w.heap.size w w' := by
  have c1 := hE.c1
  have HP := hide (prefixes_any k hk)
  have HH := hide (hasPrefix_any t (pre (3 - k)))
  rw [h1] at HH
  have HO := hide (hasPrefix_any t (pre k))
  rw [h3] at HO
  have h2i : (t.length : Int) = 52 := by omega
  clear hE h1 hk h3
  generalize pre k = p at *
  generalize pre (3 - k) = p' at *
  go_enter Tryz.func39, Tryz.ntmps39
  go_wp2_with (first | (go_at_call 21; refine (unhide HP _).mono ?_; rintro e w' ⟨rfl, rfl⟩) | (go_at_call 53; refine (unhide HH _).mono ?_; rintro e w' ⟨rfl, rfl⟩) | (go_at_call 53; refine (unhide HO _).mono ?_; rintro e w' ⟨rfl, rfl⟩))
  go_quiet (fail)
  all_goals go_wp2
  all_goals (go_ret3; exact ⟨rfl, (Below.refl _ _) |> fun q => ⟨q.os, q.tape, q.output, q.size, q.block⟩⟩)
theorem read_letters (a0 a1 a2 : Addr) (k : Int) (hk : isK k) (t : Bs) (w : World) (hE : Env a0 a1 a2 w) (h1 : (pre (3 - k)).isPrefixOf t = false) (h2 : t.length = 52) (h3 : (pre k).isPrefixOf t = true) (h4 : d64 (t.drop 4) = none) :
    Calls Tryz.prog 39 #[I k, S t] w fun e w' => e = .returned (rdV a0 a1 a2 (0, [], 2)) ∧ Below w.heap.size w w' := by
  have HE := hide hE
  have HP := hide (prefixes_any k hk)
  have HH := hide (hasPrefix_any t (pre (3 - k)))
  rw [h1] at HH
  have HO := hide (hasPrefix_any t (pre k))
  rw [h3] at HO
  have h2i : (t.length : Int) = 52 := by omega
  have HX : Hid (Value.string ((ByteArray.mk t.toArray).extract 4 52) = S (t.drop 4)) := hide (by rw [ba_cut, List.take_of_length_le (by simp; omega)])
  have HB := hide (frombase64_any (t.drop 4) w (by simp; omega))
  rw [h4] at HB
  clear hE h1 hk h3 h4
  generalize pre k = p at *
  generalize pre (3 - k) = p' at *
  go_enter Tryz.func39, Tryz.ntmps39
  go_wp2_with (first | (go_at_call 21; refine (unhide HP _).mono ?_; rintro e w' ⟨rfl, rfl⟩) | (go_at_call 53; refine (unhide HH _).mono ?_; rintro e w' ⟨rfl, rfl⟩) | (go_at_call 53; refine (unhide HO _).mono ?_; rintro e w' ⟨rfl, rfl⟩))
  rw [unhide HX]
  refine (unhide HB).mono ?_
  rintro e w1 ⟨rfl, hb⟩
  have c1 := ((unhide HE).below hb).c1
  have HB1 := hide hb
  rw [show told2 none = .tuple #[S [], I 24] from rfl]
  clear hb HE HB
  go_wp2
  go_quiet (fail)
  all_goals go_wp2
  all_goals (go_ret3; exact ⟨rfl, (unhide HB1) |> fun q => ⟨q.os, q.tape, q.output, q.size, q.block⟩⟩)
theorem rd3_bad (b : Bs) (hb : b.length = 36) (h : 128 ≤ (b.getD 0 0).toNat) : rv 8 (b, 0) = 0 ∧ rs 8 (b, 0) = (b, 20) ∧ ra 24 (b, 20) = [] ∧ rr2 24 (b, 20) = (b, 20) ∧ rv 4 (b, 20) = 0 ∧ rs 4 (b, 20) = (b, 20) ∧ rDone b 20 = 20 := by
  have e1 : rNumE 8 b = 20 := by
    unfold rNumE
    rw [if_pos (by omega), if_neg (by omega), if_pos ⟨rfl, h⟩]
  have e2 : rNumE ((8 : Nat) : Int) b = 20 := e1
  refine ⟨?_, ?_, ?_, ?_, ?_, ?_, ?_⟩
  · simp only [rv, e2]; rfl
  · simp only [rs, e2]; rfl
  · simp [ra, fine]
  · simp [rr2, rGo]
  · simp [rv, fine]
  · simp [rs, rGo]
  · simp [rDone]
theorem rd3_ok (b : Bs) (hb : b.length = 36) (h : ¬ 128 ≤ (b.getD 0 0).toNat) : rv 8 (b, 0) = (nat (b.take 8) : Int) ∧ rs 8 (b, 0) = (b.drop 8, 0) ∧ ra 24 (b.drop 8, 0) = (b.drop 8).take 24 ∧ rr2 24 (b.drop 8, 0) = (b.drop 32, 0) ∧ rv 4 (b.drop 32, 0) = (nat (b.drop 32) : Int) ∧ rs 4 (b.drop 32, 0) = ([], 0) ∧ rDone [] 0 = 0 := by
  have e1 : rNumE ((8 : Nat) : Int) b = 0 := by
    show rNumE 8 b = 0
    unfold rNumE
    rw [if_pos (by omega), if_neg (by omega), if_neg (fun q => h q.2)]
  have l8 : (b.drop 8).length = 28 := by simp [hb]
  have l32 : (b.drop 32).length = 4 := by simp [hb]
  have e2 : rRawE 24 (b.drop 8) = 0 := by
    unfold rRawE
    rw [if_neg (by omega), if_neg (by rw [l8]; omega)]
  have e3 : rNumE ((4 : Nat) : Int) (b.drop 32) = 0 := by
    show rNumE 4 (b.drop 32) = 0
    unfold rNumE
    rw [if_pos (by omega), if_neg (by rw [l32]; omega), if_neg (by omega)]
  refine ⟨?_, ?_, ?_, ?_, ?_, ?_, rfl⟩
  · simp only [rv, e1]; rfl
  · simp only [rs, e1]; rfl
  · simp only [ra, e2]; rfl
  · simp only [rr2, e2, rGo]; simp [List.drop_drop]
  · simp only [rv, e3]; rw [List.take_of_length_le (by rw [l32]; omega)]; rfl
  · simp only [rs, e3, rGo]; simp [hb]
theorem Rd.done {w0 w : World} {b g : Nat} {s : Bs × Nat} (h : Rd w0 b g s w) (hl : Lay w) :
    Calls Tryz.prog 58 #[ptr b] w fun e w' => e = .returned (I (rDone s.1 s.2)) ∧ Below w0.heap.size w0 w' := by
  obtain ⟨⟨off, cap, h1⟩, h2, h3, h4⟩ := h
  refine (rdone_any b g off cap s.1 s.2 w h1 hl).mono ?_
  rintro e w' ⟨rfl, h5⟩
  exact ⟨rfl, h2.trans (h5.mono h2.size)⟩
theorem nat_big (l : Bs) (h : l.length = 8) (q : 128 ≤ (l.getD 0 0).toNat) : 9223372036854775808 ≤ nat l := by
  rcases Nat.lt_or_ge (nat l) 9223372036854775808 with r | r
  · have := (nat_first l h).1 r; omega
  · exact r
/-- The rest of read, where the letters say 36 bytes. -/
theorem read_body (a0 a1 a2 : Addr) (k : Int) (hk : isK k) (t : Bs) (w : World) (hE : Env a0 a1 a2 w) (h1 : (pre (3 - k)).isPrefixOf t = false) (h2 : t.length = 52) (h3 : (pre k).isPrefixOf t = true) (b : Bs) (h4 : d64 (t.drop 4) = some b) (hb : b.length = 36) (v1 v3 : Int) (v2 : Bs) (s1 s2 s3 : Bs × Nat) (dn : Nat)
    (g1 : rv 8 (b, 0) = v1) (g2 : rs 8 (b, 0) = s1) (g3 : ra 24 s1 = v2) (g4 : rr2 24 s1 = s2) (g5 : rv 4 s2 = v3) (g6 : rs 4 s2 = s3) (g7 : rDone s3.1 s3.2 = dn) (l1 : s1.1.length ≤ 1000) (l2 : s2.1.length ≤ 1000) (x : Nat × Bs × Nat)
    (hx : if dn = 0 ∧ isI v1 = true then v2.length = 24 ∧ (if v3 = ((cks k v1.toNat v2).toNat : Int) then x = (v1.toNat, v2, 0) else x = (0, [], 3)) else x = (0, [], 2)) :
    Calls Tryz.prog 39 #[I k, S t] w fun e w' => e = .returned (rdV a0 a1 a2 x) ∧ Below w.heap.size w w' := by
  have HE := hide hE
  have HP := hide (prefixes_any k hk)
  have HH := hide (hasPrefix_any t (pre (3 - k)))
  rw [h1] at HH
  have HO := hide (hasPrefix_any t (pre k))
  rw [h3] at HO
  have HX : Hid (Value.string ((ByteArray.mk t.toArray).extract 4 52) = S (t.drop 4)) := hide (by rw [ba_cut, List.take_of_length_le (by simp; omega)])
  have h2i : (t.length : Int) = 52 := by omega
  have HB := hide (frombase64_any (t.drop 4) w (by simp; omega))
  rw [h4] at HB
  have hpl := pre_len k
  have HC : Hid (∀ n : Nat, cks k n v2 = crc (pre k ++ nmd n v2)) := hide (fun n => rfl)
  have HXX := hide hx
  clear hE h1 hk h3 h4 hx
  generalize pre k = p at *
  generalize pre (3 - k) = p' at *
  go_enter Tryz.func39, Tryz.ntmps39
  go_wp2_with (first | (go_at_call 21; refine (unhide HP _).mono ?_; rintro e w' ⟨rfl, rfl⟩) | (go_at_call 53; refine (unhide HH _).mono ?_; rintro e w' ⟨rfl, rfl⟩) | (go_at_call 53; refine (unhide HO _).mono ?_; rintro e w' ⟨rfl, rfl⟩))
  rename_i wq
  rw [unhide HX]
  refine (unhide HB).mono ?_
  rintro e w1 ⟨rfl, hb1⟩
  have HE1 := hide ((unhide HE).below hb1)
  have HB1 := hide hb1
  rw [show told2 (some b) = .tuple #[S b, I 0] from rfl]
  clear hb1 HE HB HH HO HP HX
  go_wp2_with fail
  refine (Rd.new b w1).mono ?_
  rintro e w2 ⟨bb, g, rfl, r2⟩
  have R2 := hide (r2.num 8 (by show b.length ≤ 1000; omega))
  rw [g1, g2] at R2
  clear r2
  go_wp2_with fail
  refine (unhide R2).mono ?_
  rintro e w3 ⟨rfl, r3, _⟩
  have R3 := hide (r3.raw 24 l1)
  rw [g3, g4] at R3
  clear r3 R2
  go_wp2_with fail
  refine (unhide R3).mono ?_
  rintro e w4 ⟨rfl, r4, _⟩
  have R4 := hide (r4.num 4 l2)
  rw [g5, g6] at R4
  clear r4 R3
  go_wp2_with fail
  refine (unhide R4).mono ?_
  rintro e w5 ⟨rfl, r5, _⟩
  have R5 := hide (r5.done (((unhide HE1).below r5.2.1).lay))
  rw [g7] at R5
  clear r5 R4 g1 g2 g3 g4 g5 g6 g7 l1 l2
  go_wp2_with fail
  refine (unhide R5).mono ?_
  rintro e w6 ⟨rfl, hb6⟩
  have HE6 := hide ((unhide HE1).below hb6)
  have HB6 := hide ((unhide HB1).trans (hb6.mono (unhide HB1).size))
  clear hb6 R5 HB1 HE1
  by_cases hd : dn = 0
  · subst hd
    by_cases hi : isI v1 = true
    · have hx := unhide HXX
      rw [if_pos ⟨rfl, hi⟩] at hx
      obtain ⟨hv2, hx⟩ := hx
      have HI := hide (isID_any v1)
      rw [hi] at HI
      have hi' : 1 ≤ v1 ∧ v1 ≤ 4611686018427387904 := by simpa [isI] using hi
      obtain ⟨n, rfl⟩ : ∃ n : Nat, v1 = n := ⟨v1.toNat, by omega⟩
      rw [Int.toNat_natCast, unhide HC n] at hx
      have HN := hide (named_any n v2 w6 (by omega) (by omega))
      have hnl := nmd_len n v2 hv2
      have HCK := hide (check_any p (nmd n v2) · (by omega))
      clear HXX hi hi' HC
      generalize nmd n v2 = N at *
      generalize ((crc (p ++ N)).toNat : Int) = c at *
      by_cases hc : v3 = c
      · rw [if_pos hc] at hx
        subst hx hc
        go_wp2_with (first | (go_at_call 11; refine (unhide HI _).mono ?_; rintro e w' ⟨rfl, rfl⟩) | (go_at_call 22; refine (unhide HN).mono ?_; rintro e w7 ⟨rfl, hb7⟩) | (go_at_call 26; refine (unhide HCK _).mono ?_; rintro e w' ⟨rfl, rfl⟩))
        go_ret3
        have q := unhide HB6
        exact ⟨rfl, q.trans (hb7.mono q.size)⟩
      · rw [if_neg hc] at hx
        subst hx
        go_wp2_with (first | (go_at_call 11; refine (unhide HI _).mono ?_; rintro e w' ⟨rfl, rfl⟩) | (go_at_call 22; refine (unhide HN).mono ?_; rintro e w7 ⟨rfl, hb7⟩; have c2 := ((unhide HE6).below hb7).c2; have HB7 := hide ((unhide HB6).trans (hb7.mono (unhide HB6).size)); clear hb7) | (go_at_call 26; refine (unhide HCK _).mono ?_; rintro e w' ⟨rfl, rfl⟩))
        go_quiet (fail)
        all_goals go_wp2
        all_goals (go_ret3; exact ⟨rfl, (unhide HB7) |> fun q => ⟨q.os, q.tape, q.output, q.size, q.block⟩⟩)
    · have hx := unhide HXX
      rw [if_neg (fun q => hi q.2)] at hx
      subst hx
      have HI := hide (isID_any v1)
      rw [show isI v1 = false by simpa using hi] at HI
      have c1 := (unhide HE6).c1
      clear hi HXX HC HE6
      go_wp2_with (first | (go_at_call 11; refine (unhide HI _).mono ?_; rintro e w' ⟨rfl, rfl⟩))
      go_quiet (fail)
      all_goals go_wp2
      all_goals (go_ret3; exact ⟨rfl, (unhide HB6) |> fun q => ⟨q.os, q.tape, q.output, q.size, q.block⟩⟩)
  · have hx := unhide HXX
    rw [if_neg (fun q => hd q.1)] at hx
    subst hx
    have hdi : ¬ (dn : Int) = 0 := by omega
    have c1 := (unhide HE6).c1
    clear HXX HC HE6 hd
    go_wp2
    go_quiet (fail)
    all_goals go_wp2
    all_goals (go_ret3; exact ⟨rfl, (unhide HB6) |> fun q => ⟨q.os, q.tape, q.output, q.size, q.block⟩⟩)
/-- read, whole. -/
theorem read_any (a0 a1 a2 : Addr) (k : Int) (hk : isK k) (t : Bs) (w : World) (hE : Env a0 a1 a2 w) :
    Calls Tryz.prog 39 #[I k, S t] w fun e w' => e = .returned (rdV a0 a1 a2 (rdT k t)) ∧ Below w.heap.size w w' := by
  by_cases h1 : (pre (3 - k)).isPrefixOf t = true
  · have e : rdT k t = (0, [], 1) := by unfold rdT; rw [if_pos h1]
    rw [e]
    exact read_other a0 a1 a2 k hk t w hE h1
  · have h1' : (pre (3 - k)).isPrefixOf t = false := Bool.eq_false_iff.2 h1
    by_cases h2 : t.length = 52
    · by_cases h3 : (pre k).isPrefixOf t = true
      · cases h4 : d64 (t.drop 4) with
        | none =>
          have e : rdT k t = (0, [], 2) := by
            unfold rdT
            rw [if_neg h1, if_neg (by rw [h3]; simp [h2]), h4]
          rw [e]
          exact read_letters a0 a1 a2 k hk t w hE h1' h2 h3 h4
        | some b =>
          have hb := d64_len h4 (by simp [h2])
          have e : rdT k t = if 1 ≤ nat (b.take 8) ∧ nat (b.take 8) ≤ 4611686018427387904 then
              if nat (b.drop 32) = (cks k (nat (b.take 8)) ((b.drop 8).take 24)).toNat then (nat (b.take 8), (b.drop 8).take 24, 0) else (0, [], 3)
            else (0, [], 2) := by
            unfold rdT
            rw [if_neg h1, if_neg (by rw [h3]; simp [h2]), h4]
          rw [e]
          have h8 : (b.take 8).length = 8 := by simp [hb]
          by_cases h5 : 128 ≤ (b.getD 0 0).toNat
          · have hbig := nat_big (b.take 8) h8 (by rw [getD_take b 8 (by omega)]; exact h5)
            rw [if_neg (fun q => by omega)]
            obtain ⟨g1, g2, g3, g4, g5, g6, g7⟩ := rd3_bad b hb h5
            refine read_body a0 a1 a2 k hk t w hE h1' h2 h3 b h4 hb 0 0 [] (b, 20) (b, 20) (b, 20) 20 g1 g2 g3 g4 g5 g6 g7 (by show b.length ≤ 1000; omega) (by show b.length ≤ 1000; omega) (0, [], 2) ?_
            rw [if_neg (fun q => by omega)]
          · obtain ⟨g1, g2, g3, g4, g5, g6, g7⟩ := rd3_ok b hb h5
            refine read_body a0 a1 a2 k hk t w hE h1' h2 h3 b h4 hb _ _ _ _ _ _ 0 g1 g2 g3 g4 g5 g6 g7 (by simp; omega) (by simp; omega) _ ?_
            by_cases h6 : 1 ≤ nat (b.take 8) ∧ nat (b.take 8) ≤ 4611686018427387904
            · rw [if_pos h6, if_pos ⟨rfl, by simp [isI]; omega⟩]
              refine ⟨by simp [hb], ?_⟩
              rw [Int.toNat_natCast]
              by_cases h7 : nat (b.drop 32) = (cks k (nat (b.take 8)) ((b.drop 8).take 24)).toNat
              · rw [if_pos h7, if_pos (by rw [h7])]
              · rw [if_neg h7, if_neg (fun q => h7 (by exact_mod_cast q))]
            · rw [if_neg h6, if_neg (fun q => h6 (by have := q.2; simp [isI] at this; omega))]
      · have e : rdT k t = (0, [], 2) := by
          unfold rdT
          rw [if_neg h1, if_pos (.inr (Bool.eq_false_iff.2 h3))]
        rw [e]
        exact read_begin a0 a1 a2 k hk t w hE h1' h2 (Bool.eq_false_iff.2 h3)
    · have e : rdT k t = (0, [], 2) := by
        unfold rdT
        rw [if_neg h1, if_pos (.inl h2)]
      rw [e]
      exact read_long a0 a1 a2 k hk t w hE h1' h2
end Go.Proofs.YtbeionikiiccpaaGreatDoor

import Derived.Test.YtbmcaejbfjpmiaaDoorRea
import Derived.Test.YtbmcaejbfjpmiaaDoorUne
namespace Go.Proofs.YtbmcaejbfjpmiaaDoor
open Go.RowKit Go.Lib
/-- A text that is being read, into memory of one's own. -/
def Rdo (l : List UInt8) (w : World) (k : Nat) (v : Value) (acc : List UInt8) (wr : World) : Prop :=
  Own w.heap.size v acc w wr ∧ rd l = more acc k (rd (l.drop k)) ∧ acc.length ≤ k
theorem Rdo.put {l : List UInt8} {w : World} {k : Nat} {v : Value} {acc : List UInt8} {wr : World} (h : Rdo l w k v acc wr) (c : UInt8) (k' : Nat) (hn : k < k') (hr : rd (l.drop k) = more [c] (k' - k) (rd (l.drop k'))) {v' : Value} {w' : World} (h1 : Own w.heap.size v' (acc ++ [c]) w w') : Rdo l w k' v' (acc ++ [c]) w' := by
  refine ⟨h1, ?_, by have := h.2.2; simp; omega⟩
  rw [h.2.1, hr, more_more]
  congr 1
  omega
theorem Rdo.err {l : List UInt8} {w : World} {k : Nat} {v : Value} {acc : List UInt8} {wr : World} (h : Rdo l w k v acc wr) (e : Nat) (hr : rd (l.drop k) = .error (e, 0)) : tell3 (rd l) = .tuple #[.string ⟨#[]⟩, .int .i64 (e : Nat), .int .i64 (k : Nat)] := by
  rw [h.2.1, hr]
  simp [more, tell3]
theorem twoInt (a b : UInt8) (ha : 0 ≤ dg a) (hb : 0 ≤ dg b) : (16 * dg a + dg b) % 256 = ((two a b).toNat : Int) := by
  have h1 := dg_range a
  have h2 := dg_range b
  unfold two
  simp
  omega
set_option maxHeartbeats 4000000 in
set_option maxRecDepth 8000 in
theorem read_any (l : List UInt8) (w : World) (hl : l.length ≤ 1099511627776) :
    Calls Tryd.prog 26 #[.string ⟨l.toArray⟩] w fun e w' => e = .returned (tell3 (rd l)) ∧ Below w.heap.size w w' := by
  obtain ⟨T, hT⟩ : ∃ T, T = tell3 (rd l) := ⟨_, rfl⟩
  rw [← hT]
  have HT := hide hT
  clear hT
  go_enter Tryd.func26, Tryd.ntmps26
  go_wp2
  go_loopw [5, 6] (fun v i wr => ∃ (k : Nat) (acc : List UInt8), k ≤ l.length ∧ i = .int .i64 k ∧ Rdo l w k v acc wr) (fun _ i _ => l.length - (Go.RowKit.intOf i).toNat)
  case atStart => exact ⟨0, [], by omega, rfl, Own.nil w, (more_nil _).symm, by simp⟩
  case round =>
    obtain ⟨k, acc, hk, rfl, hg⟩ := hrel
    have hal := hg.2.2
    by_cases hlt : k < l.length
    · have hsz : k < (ByteArray.mk l.toArray).size := by simpa [ByteArray.size] using hlt
      have hdr := drop_at l k hlt
      have hC : (ByteArray.mk l.toArray)[k]'hsz = l[k] := rfl
      have hclt := l[k].toNat_lt
      generalize l[k] = c at *
      have HG := hide hg
      have HDR := hide hdr
      clear hg hdr
      by_cases h43 : c = 43
      · subst h43
        have i43 : (((43 : UInt8).toNat : Nat) : Int) = 43 := rfl
        go_wp2_with (at_builtin; refine push rfl (.tmp 26) (.tmp 27) rfl w.heap.size _ acc (by rfl) w _ _ 32 (by rfl) (unhide HG).1 (by rfl) (by omega) ?_; intro v2 w2 hb2)
        have hg2 := (unhide HG).put 32 (k + 1) (by omega) (by rw [unhide HDR, rd_plus]; congr 1; omega) hb2
        go_roundw
        case rel => exact ⟨k + 1, _, by omega, by go_num, hg2⟩
        case measure => simp [Go.RowKit.intOf]; omega
      · have i43 : ¬ ((c.toNat : Nat) : Int) = 43 := fun q => h43 (UInt8.toNat_inj.1 (by show c.toNat = 43; omega))
        by_cases h37 : c = 37
        · subst h37
          have i37 : (((37 : UInt8).toNat : Nat) : Int) = 37 := rfl
          by_cases hshort : l.length ≤ k + 2
          · have hEr := hide ((unhide HG).err 30 (by rw [unhide HDR, rd_short _ (by simp; omega)]))
            have i1 : (l.length : Int) ≤ (k : Int) + 2 := by omega
            clear hshort
            go_wp2
            go_ret3
            exact ⟨ret_of ((unhide HT).trans (unhide hEr)), (unhide HG).1.2.1⟩
          · have k1 : k + 1 < l.length := by omega
            have k2 : k + 2 < l.length := by omega
            have hD : l.drop (k + 1) = l[k + 1] :: l[k + 2] :: l.drop (k + 3) := by rw [drop_at l (k + 1) k1, drop_at l (k + 2) k2]
            have s1 : k + 1 < (ByteArray.mk l.toArray).size := by simpa [ByteArray.size] using k1
            have s2 : k + 2 < (ByteArray.mk l.toArray).size := by simpa [ByteArray.size] using k2
            have e1 : (ByteArray.mk l.toArray)[k + 1]'s1 = l[k + 1] := rfl
            have e2 : (ByteArray.mk l.toArray)[k + 2]'s2 = l[k + 2] := rfl
            have i1 : ¬ (l.length : Int) ≤ (k : Int) + 2 := by omega
            have i2 : (k : Int) + 1 < (l.length : Int) := by omega
            have i3 : (k : Int) + 2 < (l.length : Int) := by omega
            generalize l[k + 1] = a at *
            generalize l[k + 2] = b at *
            have A1 := hide (fun W => digit_any a W)
            have A2 := hide (fun W => digit_any b W)
            have ra := dg_range a
            have rb := dg_range b
            have hTw := hide (twoInt a b)
            by_cases hx : 0 ≤ dg a ∧ 0 ≤ dg b
            · have HRD := hide (show rd (l.drop k) = more [two a b] (k + 3 - k) (rd (l.drop (k + 3))) by rw [unhide HDR, hD, rd_hex a b _ hx.1 hx.2]; congr 1; omega)
              have hTw2 := hide (unhide hTw hx.1 hx.2)
              obtain ⟨x1, x2⟩ := hx
              generalize dg a = D at *
              generalize dg b = E at *
              generalize two a b = T2 at *
              clear hTw hD hshort
              go_wp2_with fail
              refine (unhide A1 _).mono ?_
              rintro e w' ⟨rfl, rfl⟩
              go_wp2_with fail
              refine (unhide A2 _).mono ?_
              rintro e w' ⟨rfl, rfl⟩
              go_wp2_with (at_builtin; refine push rfl (.tmp 55) (.tmp 61) rfl w.heap.size _ acc (by rfl) w _ _ T2 (by have := unhide hTw2; omega) (unhide HG).1 (by rfl) (by omega) ?_; intro v2 w2 hb2)
              have hg2 := (unhide HG).put T2 (k + 3) (by omega) (unhide HRD) hb2
              go_roundw
              case rel => exact ⟨k + 3, _, by omega, by go_num, hg2⟩
              case measure => simp [Go.RowKit.intOf]; omega
            · have hEr := hide ((unhide HG).err 30 (by rw [unhide HDR, hD, rd_unhex a b _ hx]))
              generalize dg a = D at *
              generalize dg b = E at *
              clear hTw hD hshort
              rcases (by omega : D < 0 ∨ (0 ≤ D ∧ E < 0)) with h | h
              · clear hx
                go_wp2_with fail
                refine (unhide A1 _).mono ?_
                rintro e w' ⟨rfl, rfl⟩
                go_wp2_with fail
                refine (unhide A2 _).mono ?_
                rintro e w' ⟨rfl, rfl⟩
                go_wp2
                go_ret3
                exact ⟨ret_of ((unhide HT).trans (unhide hEr)), (unhide HG).1.2.1⟩
              · obtain ⟨h, h'⟩ := h
                clear hx
                go_wp2_with fail
                refine (unhide A1 _).mono ?_
                rintro e w' ⟨rfl, rfl⟩
                go_wp2_with fail
                refine (unhide A2 _).mono ?_
                rintro e w' ⟨rfl, rfl⟩
                go_wp2
                go_ret3
                exact ⟨ret_of ((unhide HT).trans (unhide hEr)), (unhide HG).1.2.1⟩
        · have i37 : ¬ ((c.toNat : Nat) : Int) = 37 := fun q => h37 (UInt8.toNat_inj.1 (by show c.toNat = 37; omega))
          by_cases hbad : bad c = true
          · have hEr := hide ((unhide HG).err 31 (by rw [unhide HDR, rd_bad c _ h43 h37 hbad]))
            have hc : c.toNat < 33 ∨ 126 < c.toNat ∨ c.toNat = 38 ∨ c.toNat = 61 := by
              unfold bad at hbad
              simp at hbad
              omega
            clear hbad
            rcases (by omega : (c.toNat : Int) < 33 ∨ ((c.toNat : Int) = 38) ∨ ((c.toNat : Int) = 61) ∨ (126 < (c.toNat : Int))) with h | h | h | h
            all_goals
              clear hc
              go_wp2
              go_ret3
              exact ⟨ret_of ((unhide HT).trans (unhide hEr)), (unhide HG).1.2.1⟩
          · have hbad' : bad c = false := by simpa using hbad
            have HRD := hide (show rd (l.drop k) = more [c] (k + 1 - k) (rd (l.drop (k + 1))) by rw [unhide HDR, rd_self c _ h43 h37 hbad']; congr 1; omega)
            have hc : 33 ≤ (c.toNat : Int) ∧ (c.toNat : Int) ≤ 126 ∧ ¬ (c.toNat : Int) = 38 ∧ ¬ (c.toNat : Int) = 61 := by
              unfold bad at hbad'
              simp at hbad'
              omega
            obtain ⟨i1, i2, i3, i4⟩ := hc
            have j1 : decide ((c.toNat : Int) < 33) = false := by simp; omega
            have j2 : decide ((126 : Int) < (c.toNat : Int)) = false := by simp; omega
            have j3 : ((c.toNat : Int) == 38) = false := by simp; omega
            have j4 : ((c.toNat : Int) == 61) = false := by simp; omega
            clear hbad hbad'
            go_wp2_with (at_builtin; refine push rfl (.tmp 19) (.tmp 21) rfl w.heap.size _ acc (by rfl) w _ _ c (by rfl) (unhide HG).1 (by rfl) (by omega) ?_; intro v2 w2 hb2)
            have hg2 := (unhide HG).put c (k + 1) (by omega) (unhide HRD) hb2
            go_roundw
            case rel => exact ⟨k + 1, _, by omega, by go_num, hg2⟩
            case measure => simp [Go.RowKit.intOf]; omega
    · have hd : decide (k < l.length) = false := by simp; omega
      have hT2 : T = .tuple #[.string ⟨acc.toArray⟩, .int .i64 0, .int .i64 0] := by
        rw [unhide HT, hg.2.1, List.drop_of_length_le (by omega), rd_nil]
        simp [more, tell3]
      have HT2 := hide hT2
      have ht := hg.1.text
      have hB := hide hg.1.2.1
      clear hg hT2
      go_wp2
      go_ret3
      exact ⟨ret_of (unhide HT2), unhide hB⟩
def tell2 : Rs (List UInt8) → Value
  | .ok l => .tuple #[.string ⟨l.toArray⟩, .int .i64 0]
  | .error (e, _) => .tuple #[.string ⟨#[]⟩, .int .i64 (e : Nat)]
theorem refUnescape_any (l : List UInt8) (w : World) (hl : l.length ≤ 1099511627776) :
    Calls Tryd.prog 11 #[.string ⟨l.toArray⟩] w fun e w' => e = .returned (tell2 (rd l)) ∧ Below w.heap.size w w' := by
  have H := hide (read_any l w hl)
  cases hr : rd l with
  | ok m =>
    rw [hr] at H
    simp only [tell3] at H
    simp only [tell2]
    go_enter Tryd.func11, Tryd.ntmps11
    go_wp2_with (go_at_call 26; refine (unhide H).mono ?_; rintro e w' ⟨rfl, hb⟩)
    go_ret2
    exact ⟨rfl, hb⟩
  | error q =>
    obtain ⟨x, p⟩ := q
    rw [hr] at H
    simp only [tell3] at H
    simp only [tell2]
    go_enter Tryd.func11, Tryd.ntmps11
    go_wp2_with (go_at_call 26; refine (unhide H).mono ?_; rintro e w' ⟨rfl, hb⟩)
    go_ret2
    exact ⟨rfl, hb⟩
theorem qUnescape_any (l : List UInt8) (w : World) (hl : l.length ≤ 1099511627776) :
    Calls Tryd.prog 10 #[.string ⟨l.toArray⟩] w fun e w' => e = .returned (tell2 (rd l)) ∧ Below w.heap.size w w' := by
  have H := hide (unescape_any l w hl)
  cases hr : rd l with
  | ok m =>
    rw [hr] at H
    simp only [tell3] at H
    simp only [tell2]
    go_enter Tryd.func10, Tryd.ntmps10
    go_wp2_with (go_at_call 25; refine (unhide H).mono ?_; rintro e w' ⟨rfl, hb⟩)
    go_ret2
    exact ⟨rfl, hb⟩
  | error q =>
    obtain ⟨x, p⟩ := q
    rw [hr] at H
    simp only [tell3] at H
    simp only [tell2]
    go_enter Tryd.func10, Tryd.ntmps10
    go_wp2_with (go_at_call 25; refine (unhide H).mono ?_; rintro e w' ⟨rfl, hb⟩)
    go_ret2
    exact ⟨rfl, hb⟩
end Go.Proofs.YtbmcaejbfjpmiaaDoor

import Derived.Test.YtbmcaejbfjpmiaaDoorEse
import Derived.Test.YtbmcaejbfjpmiaaDoorRdb
namespace Go.Proofs.YtbmcaejbfjpmiaaDoor
open Go.RowKit Go.Lib
set_option maxHeartbeats 1000000 in
theorem qEscape_any (l : List UInt8) (w : World) (hE : Env w.heap.size w) (hl : 3 * l.length ≤ 140737488355000) :
    Calls Tryd.prog 12 #[.string ⟨l.toArray⟩] w fun e w' => e = .returned (.string ⟨(esc l).toArray⟩) ∧ Below w.heap.size w w' := by
  have hb0 : Below w.heap.size w (w.alloc (.cells #[.pointer none, .slice none 0 0] 50)) := (Below.refl _ w).alloc (Nat.le_refl _) _
  have hE1 := hide (hE.below hb0)
  have HB := hide (show Bd w.heap.size w.heap.size [] (w.alloc (.cells #[.pointer none, .slice none 0 0] 50)) from IsBuilderF.of (fresh_isBuilder 50 5 w))
  have hsz : (w.alloc (.cells #[.pointer none, .slice none 0 0] 50)).heap.size = w.heap.size + 1 := by simp
  clear hE
  go_enter Tryd.func12, Tryd.ntmps12
  go_wp2_with (go_at_call 27; refine (escape_any w.heap.size w.heap.size [] l _ (unhide hE1) (unhide HB) (by omega) (by simp; omega)).mono ?_)
  rintro e W1 ⟨rfl, h1, k1, o1⟩
  have s1 := k1.size
  rw [List.nil_append] at h1
  go_wp2_with (go_at_call 28; refine (Tryd.Builder_String_any_k w.heap.size w.heap.size (esc l) W1 h1 (by omega)).mono ?_)
  rintro e W2 ⟨rfl, _, k2, _⟩
  go_wp2
  go_ret
  exact ⟨rfl, (hb0.trans k1).trans k2⟩
def tell3 : Rs (List UInt8) → Value
  | .ok l => .tuple #[.string ⟨l.toArray⟩, .int .i64 0, .int .i64 0]
  | .error (e, p) => .tuple #[.string ⟨#[]⟩, .int .i64 (e : Nat), .int .i64 (p : Nat)]
/-- A text that is being read: what was taken, from where on it goes on. -/
def Rdg (l : List UInt8) (w : World) (pos next : Nat) (acc : List UInt8) (wr : World) : Prop :=
  Bd w.heap.size w.heap.size acc wr ∧ wr.heap[w.heap.size + 1]? = some (.stringIter ⟨l.toArray⟩ pos) ∧ Below w.heap.size w wr ∧ rd l = more acc next (rd (l.drop next)) ∧ (∀ k, pos ≤ k → k < next → (l.getD k 0).toNat < 128) ∧ acc.length ≤ next
theorem Rdg.size {l : List UInt8} {w : World} {pos next : Nat} {acc : List UInt8} {wr : World} (h : Rdg l w pos next acc wr) : w.heap.size + 1 < wr.heap.size := (Array.getElem?_eq_some_iff.1 h.2.1).1
theorem Rdg.start (l : List UInt8) (w : World) : Rdg l w 0 0 [] ((w.alloc (.cells #[.pointer none, .slice none 0 0] 50)).iter ⟨l.toArray⟩ 0) := by
  refine ⟨(IsBuilderF.of (fresh_isBuilder 50 5 w)).alloc _, ?_, ((Below.refl _ w).alloc (Nat.le_refl _) _).alloc (by simp) _, (more_nil _).symm, fun k _ h => by omega, by simp⟩
  have := World.iter_heap (w.alloc (.cells #[.pointer none, .slice none 0 0] 50)) ⟨l.toArray⟩ 0
  simpa using this
theorem Rdg.iter {l : List UInt8} {w : World} {pos next : Nat} {acc : List UInt8} {wr : World} (h : Rdg l w pos next acc wr) (q : Nat) (hq : pos ≤ q) : Rdg l w q next acc (wr.iterAt (w.heap.size + 1) ⟨l.toArray⟩ q) :=
  ⟨IsBuilderF.iterAt h.1 h.2.1 q, iterAt_heap wr _ _ pos q h.2.1, below_iterAt h.2.2.1 (by omega) _ q, h.2.2.2.1, fun k h1 h2 => h.2.2.2.2.1 k (by omega) h2, h.2.2.2.2.2⟩
theorem Rdg.put {l : List UInt8} {w : World} {pos next : Nat} {acc : List UInt8} {wr w' : World} (h : Rdg l w pos next acc wr) (c : UInt8) (next' : Nat) (hn : next < next') (hr : rd (l.drop next) = more [c] (next' - next) (rd (l.drop next'))) (ha : ∀ k, pos ≤ k → k < next' → (l.getD k 0).toNat < 128)
    (h1 : BuilderAtF 50 5 w.heap.size w.heap.size (.pointer (some ⟨w.heap.size, 0, none⟩)) (byteCells acc ++ [.int .u8 (c.toNat : Int)]) w') (k : Below w.heap.size wr w') (o : OthersKept 5 (some w.heap.size) wr w') : Rdg l w pos next' (acc ++ [c]) w' := by
  refine ⟨?_, o.iter h.2.1 (by omega), h.2.2.1.trans k, ?_, ha, by have := h.2.2.2.2.2; simp; omega⟩
  · unfold Bd
    rw [byteCells_append]
    exact .inr h1
  · rw [h.2.2.2.1, hr, more_more]
    congr 1
    omega
theorem Rdg.err {l : List UInt8} {w : World} {pos next : Nat} {acc : List UInt8} {wr : World} (h : Rdg l w pos next acc wr) (e : Nat) (hr : rd (l.drop next) = .error (e, 0)) : tell3 (rd l) = .tuple #[.string ⟨#[]⟩, .int .i64 (e : Nat), .int .i64 (next : Nat)] := by
  rw [h.2.2.2.1, hr]
  simp [more, tell3]
theorem Rdg.drewN {l : List UInt8} {w : World} {pos next : Nat} {acc : List UInt8} {wr : World} (h : Rdg l w pos next acc wr) (q : Nat) : Rdg l w pos next acc (wr.drewN q) := by
  have k : Below wr.heap.size wr (wr.drewN q) := ⟨rfl, rfl, rfl, Nat.le_refl _, fun _ _ => rfl⟩
  exact ⟨h.1.keep k, h.2.1, h.2.2.1.trans ⟨rfl, rfl, rfl, Nat.le_refl _, fun _ _ => rfl⟩, h.2.2.2⟩
theorem ret_of {a b : Value} (h : b = a) : Ending.returned a = .returned b := by rw [h]
set_option maxHeartbeats 4000000 in
set_option maxRecDepth 8000 in
theorem unescape_any (l : List UInt8) (w : World) (hl : l.length ≤ 1099511627776) :
    Calls Tryd.prog 25 #[.string ⟨l.toArray⟩] w fun e w' => e = .returned (tell3 (rd l)) ∧ Below w.heap.size w w' := by
  obtain ⟨X, hX⟩ : ∃ X : ByteArray, X = ⟨l.toArray⟩ := ⟨_, rfl⟩
  have hsz : X.size = l.length := by rw [hX]; simp [ByteArray.size]
  have hat : ∀ (k : Nat) (hk : k < X.size) (hk' : k < l.length), X[k]'hk = l[k] := by subst hX; intro k hk hk'; rfl
  have HG := hide (Rdg.start l w)
  have hxe : ∀ n, X.extract n l.length = ⟨(l.drop n).toArray⟩ := by
    intro n
    subst hX
    rw [extract_eq, List.take_of_length_le (by simp)]
  rw [← hX] at HG ⊢
  have HX := hide hX
  have HXE := hide hxe
  obtain ⟨T, hT⟩ : ∃ T, T = tell3 (rd l) := ⟨_, rfl⟩
  rw [← hT]
  have HT := hide hT
  clear hX hxe hT
  go_enter Tryd.func25, Tryd.ntmps25
  go_wp2
  go_loopw [6] (fun nx wr => ∃ (pos next : Nat) (acc : List UInt8), pos ≤ next ∧ next ≤ l.length ∧ nx = .int .i64 next ∧ Rdg l w pos next acc wr) (fun _ wr => l.length - wr.iterPos (w.heap.size + 1))
  case atStart => exact ⟨0, 0, [], by omega, by omega, rfl, unhide HG⟩
  case round =>
    obtain ⟨pos, next, acc, hpn, hnl, rfl, hg⟩ := hrel
    clear HG
    have hit := hg.2.1
    rw [← unhide HX] at hit
    have hmu : wr.iterPos (w.heap.size + 1) = pos := by simp [World.iterPos, hit]
    by_cases hp : pos < X.size
    · have hp' : pos < l.length := by omega
      have hcD : l.getD pos 0 = l[pos] := by rw [List.getD_eq_getElem?_getD, List.getElem?_eq_getElem hp']; rfl
      by_cases hlt : pos < next
      · have ha : (X[pos]'hp).toNat < 128 := by
          have := hg.2.2.2.2.1 pos (Nat.le_refl _) hlt
          rw [hat pos hp hp', ← hcD]
          exact this
        have hnx : ∀ ty, (Instr.next (.pointer (some ⟨w.heap.size + 1, 0, none⟩)) true ty).run Tryd.prog wr = _ := fun ty => run_next_ascii_at wr (w.heap.size + 1) X pos ty hit hp ha
        have hg1 := hg.iter (pos + 1) (by omega)
        rw [← unhide HX] at hg1
        generalize wr.iterAt (w.heap.size + 1) X (pos + 1) = W1 at *
        have HG1 := hide hg1
        clear hg hg1 hit
        go_wp2
        go_roundw
        case rel => exact ⟨pos + 1, next, acc, by omega, hnl, rfl, unhide HG1⟩
        case measure =>
          have : W1.iterPos (w.heap.size + 1) = pos + 1 := by simp [World.iterPos, (unhide HG1).2.1]
          rw [hmu, this]
          omega
      · obtain rfl : pos = next := by omega
        have hdr := drop_at l pos hp'
        by_cases ha : (X[pos]'hp).toNat < 128
        · have hnx : ∀ ty, (Instr.next (.pointer (some ⟨w.heap.size + 1, 0, none⟩)) true ty).run Tryd.prog wr = _ := fun ty => run_next_ascii_at wr (w.heap.size + 1) X pos ty hit hp ha
          have hg1 := hg.iter (pos + 1) (by omega)
          rw [← unhide HX] at hg1
          rw [hat pos hp hp'] at hnx ha
          generalize wr.iterAt (w.heap.size + 1) X (pos + 1) = W1 at *
          have hs1 := hg1.size
          have hal := hg1.2.2.2.2.2
          have HG1 := hide hg1
          have hclt := l[pos].toNat_lt
          generalize l[pos] = c at *
          clear hg hg1 hit hlt
          have HDR := hide hdr
          clear hdr
          have HAS : Hid (∀ k, pos + 1 ≤ k → k < pos + 1 → (l.getD k 0).toNat < 128) := hide (fun k h1 h2 => by omega)
          by_cases h43 : c = 43
          · subst h43
            have i43 : (((43 : UInt8).toNat : Nat) : Int) = 43 := rfl
            go_wp2_with (go_at_call 34; refine (Tryd.Builder_WriteByte_k w.heap.size w.heap.size _ 32 W1 (unhide HG1).1 (by rw [byteCells_length]; omega) (by omega)).mono ?_)
            rintro e W2 ⟨rfl, h2, k2, o2⟩
            have hg2 := (unhide HG1).put 32 (pos + 1) (by omega) (by rw [unhide HDR, rd_plus]; congr 1; omega) (unhide HAS) h2 k2 o2
            clear h2 k2 o2 HG1
            go_wp2
            go_roundw
            case rel => exact ⟨pos + 1, pos + 1, _, by omega, by omega, by go_num, hg2⟩
            case measure =>
              have : W2.iterPos (w.heap.size + 1) = pos + 1 := by simp [World.iterPos, hg2.2.1]
              rw [hmu, this]
              omega
          · have i43 : ¬ ((c.toNat : Nat) : Int) = 43 := fun q => h43 (UInt8.toNat_inj.1 (by show c.toNat = 43; omega))
            by_cases h37 : c = 37
            · subst h37
              have i37 : (((37 : UInt8).toNat : Nat) : Int) = 37 := rfl
              obtain ⟨D, hD⟩ : ∃ D, l.drop (pos + 1) = D := ⟨_, rfl⟩
              have hDl : D.length = l.length - (pos + 1) := by rw [← hD]; simp
              have hxe := unhide HXE (pos + 1)
              rw [hD] at hxe
              have HD := hide hD
              by_cases hshort : D.length < 2
              · have HR := hide (readByte_short D W1 hshort)
                rw [← hxe] at HR
                have hEr := hide ((unhide HG1).err 30 (by rw [unhide HDR, unhide HD, rd_short D hshort]))
                clear hxe hD hDl hshort HXE
                go_wp2_with (go_at_call 36; refine (unhide HR).mono ?_)
                rintro e W2 ⟨rfl, q, rfl⟩
                have HG2 := hide ((unhide HG1).drewN q)
                generalize W1.drewN q = W2 at *
                go_wp2
                go_ret3
                exact ⟨ret_of ((unhide HT).trans (unhide hEr)), (unhide HG2).2.2.1⟩
              · obtain ⟨a, b, u, rfl⟩ : ∃ a b u, D = a :: b :: u := by
                  match D, hshort with
                  | [], h => simp at h
                  | [a], h => simp at h
                  | a :: b :: u, _ => exact ⟨a, b, u, rfl⟩
                simp only [List.length_cons] at hDl
                have HR := hide (readByte_two a b u W1 (by omega))
                rw [← hxe] at HR
                by_cases hx : 0 ≤ dg a ∧ 0 ≤ dg b
                · rw [if_pos hx, decide_eq_true hx] at HR
                  have hu : u = l.drop (pos + 3) := by
                    have := congrArg (List.drop 2) hD
                    rw [List.drop_drop] at this
                    simpa using this.symm
                  have HRD := hide (show rd (l.drop pos) = more [two a b] (pos + 3 - pos) (rd (l.drop (pos + 3))) by rw [unhide HDR, unhide HD, rd_hex a b u hx.1 hx.2, hu]; congr 1; omega)
                  have HAS2 : Hid (∀ k, pos + 1 ≤ k → k < pos + 3 → (l.getD k 0).toNat < 128) := hide (by
                    have hdl : ∀ x, 0 ≤ dg x → x.toNat < 128 := by
                      intro x hx
                      unfold dg at hx
                      split at hx
                      · omega
                      · split at hx
                        · omega
                        · split at hx <;> omega
                    intro k h1 h2
                    have e : l.getD k 0 = (l.drop (pos + 1)).getD (k - (pos + 1)) 0 := by
                      rw [List.getD_eq_getElem?_getD, List.getD_eq_getElem?_getD, List.getElem?_drop]
                      congr 2
                      omega
                    rw [e, hD]
                    rcases (by omega : k - (pos + 1) = 0 ∨ k - (pos + 1) = 1) with e2 | e2
                    · rw [e2]; exact hdl a hx.1
                    · rw [e2]; exact hdl b hx.2)
                  have h3l : pos + 3 ≤ l.length := by omega
                  clear hxe hD hDl hshort HXE hx hu HD
                  generalize two a b = T2 at *
                  go_wp2_with (go_at_call 36; refine (unhide HR).mono ?_)
                  rintro e W2 ⟨rfl, q, rfl⟩
                  have HG2 := hide ((unhide HG1).drewN q)
                  have hs2 := (unhide HG2).size
                  generalize W1.drewN q = W3 at *
                  go_wp2_with (go_at_call 34; refine (Tryd.Builder_WriteByte_k w.heap.size w.heap.size _ (T2.toNat : Int) W3 (unhide HG2).1 (by rw [byteCells_length]; omega) (by omega)).mono ?_)
                  rintro e W2 ⟨rfl, h2, k2, o2⟩
                  have hg2 := (unhide HG2).put T2 (pos + 3) (by omega) (unhide HRD) (unhide HAS2) h2 k2 o2
                  clear h2 k2 o2 HG1 HG2
                  go_wp2
                  go_roundw
                  case rel => exact ⟨pos + 1, pos + 3, _, by omega, by omega, by go_num, hg2⟩
                  case measure =>
                    have : W2.iterPos (w.heap.size + 1) = pos + 1 := by simp [World.iterPos, hg2.2.1]
                    rw [hmu, this]
                    omega
                · rw [if_neg hx, decide_eq_false hx] at HR
                  have hEr := hide ((unhide HG1).err 30 (by rw [unhide HDR, unhide HD, rd_unhex a b u hx]))
                  clear hxe hD hDl hshort HXE hx
                  go_wp2_with (go_at_call 36; refine (unhide HR).mono ?_)
                  rintro e W2 ⟨rfl, q, rfl⟩
                  have HG2 := hide ((unhide HG1).drewN q)
                  generalize W1.drewN q = W2 at *
                  go_wp2
                  go_ret3
                  exact ⟨ret_of ((unhide HT).trans (unhide hEr)), (unhide HG2).2.2.1⟩
            · have i37 : ¬ ((c.toNat : Nat) : Int) = 37 := fun q => h37 (UInt8.toNat_inj.1 (by show c.toNat = 37; omega))
              by_cases hbad : bad c = true
              · have hEr := hide ((unhide HG1).err 31 (by rw [unhide HDR, rd_bad c _ h43 h37 hbad]))
                have hc : c.toNat < 33 ∨ 126 < c.toNat ∨ c.toNat = 38 ∨ c.toNat = 61 := by
                  unfold bad at hbad
                  simp at hbad
                  omega
                clear hbad HXE
                have fin : ∀ {W : World}, W = W1 → Below w.heap.size w W := fun h => h ▸ (unhide HG1).2.2.1
                rcases (by omega : (c.toNat : Int) < 33 ∨ ((c.toNat : Int) = 38) ∨ ((c.toNat : Int) = 61) ∨ (126 < (c.toNat : Int))) with h | h | h | h
                all_goals
                  go_wp2
                  go_ret3
                  exact ⟨ret_of ((unhide HT).trans (unhide hEr)), (unhide HG1).2.2.1⟩
              · have hbad' : bad c = false := by simpa using hbad
                have HRD := hide (show rd (l.drop pos) = more [c] (pos + 1 - pos) (rd (l.drop (pos + 1))) by rw [unhide HDR, rd_self c _ h43 h37 hbad']; congr 1; omega)
                have hc : 33 ≤ (c.toNat : Int) ∧ (c.toNat : Int) ≤ 126 ∧ ¬ (c.toNat : Int) = 38 ∧ ¬ (c.toNat : Int) = 61 := by
                  unfold bad at hbad'
                  simp at hbad'
                  omega
                obtain ⟨i1, i2, i3, i4⟩ := hc
                clear hbad hbad' HXE
                go_wp2_with (go_at_call 34; refine (Tryd.Builder_WriteByte_k w.heap.size w.heap.size _ (c.toNat : Int) W1 (unhide HG1).1 (by rw [byteCells_length]; omega) (by omega)).mono ?_)
                rintro e W2 ⟨rfl, h2, k2, o2⟩
                have hg2 := (unhide HG1).put c (pos + 1) (by omega) (unhide HRD) (unhide HAS) h2 k2 o2
                clear h2 k2 o2 HG1
                go_wp2
                go_roundw
                case rel => exact ⟨pos + 1, pos + 1, _, by omega, by omega, by go_num, hg2⟩
                case measure =>
                  have : W2.iterPos (w.heap.size + 1) = pos + 1 := by simp [World.iterPos, hg2.2.1]
                  rw [hmu, this]
                  omega
        · have ha' : 128 ≤ (X[pos]'hp).toNat := by omega
          have hnx : ∀ ty, (Instr.next (.pointer (some ⟨w.heap.size + 1, 0, none⟩)) true ty).run Tryd.prog wr = _ := fun ty => run_next_any_at wr (w.heap.size + 1) X pos ty hit hp
          have hr := (decode_high X pos hp ha').1
          have hr2 := decode_le X pos
          have hg1 := hg.iter (pos + (Utf8.decode X pos).2) (by omega)
          rw [← unhide HX] at hg1
          generalize (Utf8.decode X pos).2 = K at *
          generalize (Utf8.decode X pos).1 = R at *
          generalize wr.iterAt (w.heap.size + 1) X (pos + K) = W1 at *
          have hEr := hide (hg1.err 31 (by
            rw [hdr, rd_bad]
            · intro e; rw [hat pos hp hp', e] at ha'; exact absurd ha' (by decide)
            · intro e; rw [hat pos hp hp', e] at ha'; exact absurd ha' (by decide)
            · rw [hat pos hp hp'] at ha'
              unfold bad
              simp
              omega))
          have HG1 := hide hg1
          clear hg hg1 hit hlt hdr HXE ha ha'
          have iR : (128 : Int) ≤ (R : Int) := by omega
          go_wp2
          go_ret3
          exact ⟨ret_of ((unhide HT).trans (unhide hEr)), (unhide HG1).2.2.1⟩
    · have hnx : ∀ ty, (Instr.next (.pointer (some ⟨w.heap.size + 1, 0, none⟩)) true ty).run Tryd.prog wr = _ := fun ty => run_next_end_at wr (w.heap.size + 1) X pos ty hit hp
      have hs := hg.size
      have hal := hg.2.2.2.2.2
      have hT2 : T = .tuple #[.string ⟨acc.toArray⟩, .int .i64 0, .int .i64 0] := by
        rw [unhide HT, hg.2.2.2.1, List.drop_of_length_le (by omega), rd_nil]
        simp [more, tell3]
      have HT2 := hide hT2
      have HG1 := hide hg
      clear hT2 hg hit
      go_wp2_with (go_at_call 28; refine (Tryd.Builder_String_any_k w.heap.size w.heap.size acc wr (unhide HG1).1 (by omega)).mono ?_)
      rintro e W2 ⟨rfl, _, k2, _⟩
      have HK := hide ((unhide HG1).2.2.1.trans k2)
      clear k2
      go_wp2
      go_ret3
      exact ⟨ret_of (unhide HT2), unhide HK⟩
end Go.Proofs.YtbmcaejbfjpmiaaDoor

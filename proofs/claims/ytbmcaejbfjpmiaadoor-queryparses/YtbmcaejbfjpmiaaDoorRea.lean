import Derived.Test.YtbmcaejbfjpmiaaDoorEsc
import Derived.Test.YtbmcaejbfjpmiaaDoorByc
import Derived.Test.YtbmcaejbfjpmiaaDoorBya
import Derived.Deep.RegionLaw
namespace Go.Proofs.YtbmcaejbfjpmiaaDoor
open Go.RowKit Go.Lib
theorem Own.drew {base : Nat} {v : Value} {X : List UInt8} {W0 w : World} (h : Own base v X W0 w) : Own base v X W0 w.drew := ⟨h.1, h.2.1.drew, h.2.2⟩
theorem step_push3 {ops : Array Oper} {o : Oper} {a : Act} {K : Act → World → Prop} {Q : Exit → Act → World → Prop} {E : Prop} (hgd : o.guard = none) (s x : Operand)
    (ho : o.op = .call { callee := .builtin .append, args := #[s, x], argTypes := #[48, 48] })
    (base : Nat) (v : Value) (X : List UInt8) (hs : a.eval s = v) (W0 w0 : World) (ci di fi : Int) (c d f : UInt8) (hci : ci = (c.toNat : Int)) (hdi : di = (d.toNat : Int)) (hfi : fi = (f.toNat : Int)) (hb : Own base v X W0 w0)
    (hx : a.eval x = .slice (some ⟨w0.heap.size, 0, none⟩) 3 3) (hlen : X.length + 3 ≤ 140737488355328)
    (h : ∀ v' w', Own base v' (X ++ [c, d, f]) W0 w' → K (a.put o.dst v') w') :
    if Region.wanted o (yielded ops a.tmps) = true then Oper.wp Tryd.prog o a (w0.alloc (.cells #[.int .u8 ci, .int .u8 di, .int .u8 fi] 5)) K Q else E := by
  have hw : Region.wanted o (yielded ops a.tmps) = true := by simp [Region.wanted, hgd]
  rw [if_pos hw]
  subst hci hdi hfi
  obtain ⟨i0, hi, hz0, hz1, hz2⟩ := info_parts info5
  have hb' := OwnBuf.alloc hb (.cells #[.int .u8 (c.toNat : Int), .int .u8 (d.toNat : Int), .int .u8 (f.toNat : Int)] 5)
  obtain ⟨v', w', hr, h2, h3, _⟩ := run_append_ownF (P := Tryd.prog) (w0.alloc (.cells #[.int .u8 (c.toNat : Int), .int .u8 (d.toNat : Int), .int .u8 (f.toNat : Int)] 5)) base 48 o.type 5 i0 (.int .u8 0) 1 1 Tryd.underlying48 hi hz0 hz1 hz2 rfl (by decide) v X.length (X.map B) hb'.1 ⟨w0.heap.size, 0, none⟩ 3 3 [B c, B d, B f] rfl (by
      intro j u hj
      match j, hj with
      | 0, hj => simp at hj; subst hj; simp [Addr.add, B]
      | 1, hj => simp at hj; subst hj; simp [Addr.add, B]
      | 2, hj => simp at hj; subst hj; simp [Addr.add, B]
      | (j + 3), hj => simp at hj) (by intro u hu; simp at hu; rcases hu with rfl | rfl | rfl <;> rfl) (by unfold maxLen; omega) (by omega) hb'.2.2
  unfold Oper.wp execOp
  simp only [ho, resolve, invoke, builtin, Sem.run_bind, Sem.run_pure, Result.andThen_ok, List.map_toArray, List.map_cons, List.map_nil, hs, hx, hr]
  refine h v' w' ?_
  have := OwnBuf.grown hb' h2 h3
  unfold Own
  rw [List.length_append, List.map_append]
  exact this
theorem esc_take_snoc (l : List UInt8) (k : Nat) (h : k < l.length) : esc (l.take (k + 1)) = esc (l.take k) ++ esc1 l[k] := by
  rw [take_snoc l k h, esc_append]
  simp [esc]
set_option maxHeartbeats 4000000 in
set_option maxRecDepth 8000 in
theorem refEscape_any (l : List UInt8) (w : World) (hl : l.length ≤ 1099511627776) :
    Calls Tryd.prog 13 #[.string ⟨l.toArray⟩] w fun e w' => e = .returned (.string ⟨(esc l).toArray⟩) ∧ Below w.heap.size w w' := by
  go_enter Tryd.func13, Tryd.ntmps13
  go_wp2
  go_loopw [3, 4] (fun v i wr => ∃ k : Nat, k ≤ l.length ∧ i = .int .i64 k ∧ Own w.heap.size v (esc (l.take k)) w wr) (fun _ i _ => l.length - (Go.RowKit.intOf i).toNat)
  case atStart => exact ⟨0, by omega, rfl, Own.nil w⟩
  case round =>
    obtain ⟨k, hk, rfl, hb⟩ := hrel
    by_cases hlt : k < l.length
    · have hsz : k < (ByteArray.mk l.toArray).size := by simpa [ByteArray.size] using hlt
      have hes := esc_take_snoc l k hlt
      have hlen := esc_len (l.take k)
      rw [List.length_take] at hlen
      have hC : (ByteArray.mk l.toArray)[k]'hsz = l[k] := rfl
      have hclt := l[k].toNat_lt
      generalize l[k] = c at *
      generalize esc (l.take k) = O at *
      have HES := hide hes
      have HB := hide hb
      have hlO : O.length ≤ 3298534883328 := by omega
      clear hes hb hlen
      have HQ := hide (fun W => refplain_any c W)
      by_cases hp : plain c = true
      · rw [hp] at HQ
        have h1 : esc1 c = [c] := by unfold esc1; rw [if_pos hp]
        rw [h1] at HES
        clear hp h1
        go_wp2_with (first | (go_at_call 29; refine (unhide HQ _).mono ?_; rintro e w' ⟨rfl, rfl⟩) | (at_builtin; refine push rfl (.tmp 29) (.tmp 31) rfl w.heap.size _ O (by rfl) w _ _ c (by rfl) (unhide HB) (by rfl) (by omega) ?_; intro v2 w2 hb2))
        go_roundw
        case rel => exact ⟨k + 1, by omega, by go_num, by rw [unhide HES]; exact hb2⟩
        case measure => simp [Go.RowKit.intOf]; omega
      · have hp' : plain c = false := by simpa using hp
        rw [hp'] at HQ
        by_cases h32 : c = 32
        · subst h32
          have h1 : esc1 32 = [43] := by decide +kernel
          rw [h1] at HES
          have i32 : (((32 : UInt8).toNat : Nat) : Int) = 32 := rfl
          clear hp h1 hp'
          go_wp2_with (first | (go_at_call 29; refine (unhide HQ _).mono ?_; rintro e w' ⟨rfl, rfl⟩) | (at_builtin; refine push rfl (.tmp 36) (.tmp 37) rfl w.heap.size _ O (by rfl) w _ _ 43 (by rfl) (unhide HB) (by rfl) (by omega) ?_; intro v2 w2 hb2))
          go_roundw
          case rel => exact ⟨k + 1, by omega, by go_num, by rw [unhide HES]; exact hb2⟩
          case measure => simp [Go.RowKit.intOf]; omega
        · have i32 : ¬ ((c.toNat : Nat) : Int) = 32 := fun q => h32 (UInt8.toNat_inj.1 (by show c.toNat = 32; omega))
          have h1 : esc1 c = [37, hexd (c.toNat / 16), hexd (c.toNat % 16)] := by unfold esc1; rw [if_neg hp, if_neg h32]
          rw [h1] at HES
          have hs16 : (ByteArray.mk hexs.toArray).size = 16 := rfl
          obtain ⟨M1, hM1⟩ : ∃ M, M = c.toNat / 16 := ⟨_, rfl⟩
          obtain ⟨M2, hM2⟩ : ∃ M, M = c.toNat % 16 := ⟨_, rfl⟩
          rw [← hM1, ← hM2] at HES
          have l1 : M1 < 16 := by omega
          have l2 : M2 < 16 := by omega
          have q1 : Int.tdiv (c.toNat : Int) 16 = (M1 : Int) := by rw [Int.tdiv_eq_ediv_of_nonneg (by omega)]; omega
          have q2 : Int.tmod (c.toNat : Int) 16 = (M2 : Int) := by rw [Int.tmod_eq_emod_of_nonneg (by omega)]; omega
          have q3 : (c.toNat : Int) / 16 = (M1 : Int) := by omega
          have q4 : (c.toNat : Int) % 16 = (M2 : Int) := by omega
          have d1 := digit_at M1 l1 (by rw [hs16]; omega)
          have d2 := digit_at M2 l2 (by rw [hs16]; omega)
          have b1 : (M1 : Int) < 16 := by omega
          have b2 : (M2 : Int) < 16 := by omega
          have wr1 : IntKind.u8.wrap (M1 : Int) = (M1 : Int) := by rw [IntKind.wrap_u8]; omega
          clear hp h1 hp' h32 hM1 hM2
          go_wp2_with (go_at_call 29; refine (unhide HQ _).mono ?_; rintro e w' ⟨rfl, rfl⟩)
          go_wp2
          go_region_law (refine step_push3 rfl (.tmp 18) (.tmp 25) rfl w.heap.size _ O (by rfl) w _ _ _ _ 37 (hexd M1) (hexd M2) (by rfl) (by first | rfl | (rw [d1])) (by first | rfl | (rw [d2])) (unhide HB).drew (by rfl) (by omega) ?_; intro v2 w2 hb2)
          all_goals go_wp2
          all_goals (
            go_roundw
            case rel => exact ⟨k + 1, by omega, by go_num, by rw [unhide HES]; exact hb2⟩
            case measure => simp [Go.RowKit.intOf]; omega)
    · have hd : decide (k < l.length) = false := by simp; omega
      have e : l.take k = l := List.take_of_length_le (by omega)
      rw [e] at hb
      have ht := hb.text
      have hB := hide hb.2.1
      clear hb e
      go_wp2
      go_ret
      exact ⟨rfl, unhide hB⟩
end Go.Proofs.YtbmcaejbfjpmiaaDoor

import Derived.Test.YtknlafgaagimjaaDoorRfc
import Derived.Test.YtknlafgaagimjaaDoorSch
import Derived.Lib.CutLaws
namespace Go.Proofs.YtknlafgaagimjaaDoor
open Go.RowKit Go.Lib
theorem ba_cut (s : Bs) (a b : Nat) : (ByteArray.mk s.toArray).extract a b = ⟨((s.drop a).take (b - a)).toArray⟩ := by
  apply ByteArray.ext
  simp [ByteArray.data_extract]
theorem spl_hit (t : Bs) (k : Nat) (hk : k < t.length) (hno : ∀ c ∈ t.take k, c ≠ 32) (h32 : t[k] = 32) : spl t = t.take k :: spl (t.drop (k + 1)) := by
  have e : t = t.take k ++ 32 :: t.drop (k + 1) := by
    conv => lhs; rw [← List.take_append_drop k t]
    rw [List.drop_eq_getElem_cons hk, h32]
  conv => lhs; rw [e]
  exact spl_word hno _
/-- One more text at the end of a row of one's own. -/
theorem pushS {ops : Array Oper} {rest : List Oper} {o : Oper} {a : Act} {w : World} {Q : Exit → Act → World → Prop} (hgd : o.guard = none) (s x : Operand)
    (ho : o.op = .call { callee := .builtin .append, args := #[s, x], argTypes := #[24, 24] }) (B : Nat) (v : Value) (l : List Bs) (hs : a.eval s = v) (w0 : World) (hown : Own B w0 v l) (y : Bs) (hw : w = w0.alloc (.cells #[S y] 9)) (hx : a.eval x = .slice (some ⟨w0.heap.size, 0, none⟩) 1 1) (hn : l.length ≤ 1000000000000) (hB : B ≤ w0.heap.size)
    (h : ∀ v' w', Own B w' v' (l ++ [y]) → (∀ b w1, b ≤ B → Below b w1 w0 → Below b w1 w') → wpList Tryd.prog ops Q rest (a.put o.dst v') w') : wpList Tryd.prog ops Q (o :: rest) a w := by
  subst hw
  obtain ⟨i0, hi, hz0, hz1, hz2⟩ := info_parts info9
  refine wpList_append_own _ hgd s x 24 ho B 9 i0 (.string ⟨#[]⟩) 1 16 Tryd.underlying24 hi hz0 hz1 hz2 rfl (by decide) v l.length (l.map encStr) hs (World.ownsRow.alloc hown _) ⟨w0.heap.size, 0, none⟩ 1 1 [S y] hx rfl (cell_one_new _ _ _) (by intro u hu; simp at hu; subst hu; rfl) (by unfold maxLen; omega) (by omega) (by simp; omega) ?_
  intro v' w' ho' hg' _
  refine h v' w' ?_ ?_
  · unfold Own
    simpa using ho'
  · intro b w1 hb hbel
    have hs : b ≤ w0.heap.size := by omega
    refine (hbel.alloc hs _).grown hg' (by simp; omega) (fun j hj => ?_)
    have := (World.ownsRow.lt (World.ownsRow.alloc hown (.cells #[S y] 9)) j hj).1
    omega
set_option maxHeartbeats 8000000 in
set_option maxRecDepth 8000 in
theorem pieces_any (s : Bs) (w : World) (hs : s.length < 4294967281) : Calls Tryd.prog 29 #[S s] w (OutL w (spl s)) := by
  have HE : Hid (spl s = spl s) := hide rfl
  go_enter Tryd.func29, Tryd.ntmps29
  go_wp2
  go_loopw [3, 4, 5] (fun v f i wq => ∃ (k j : Nat) (out : List Bs), k ≤ j ∧ j ≤ s.length ∧ f = .int .i64 k ∧ i = .int .i64 j ∧ out ++ spl (s.drop k) = spl s ∧ out.length ≤ k ∧ (∀ c ∈ (s.drop k).take (j - k), c ≠ 32) ∧ Own w.heap.size wq v out ∧ Below w.heap.size w wq) (fun _ _ i _ => s.length - (Go.RowKit.intOf i).toNat)
  case atStart => exact ⟨0, 0, [], by omega, by omega, rfl, rfl, rfl, by simp, by simp, own_nil _ _, Below.refl _ _⟩
  case round =>
    obtain ⟨k, j, out, hkj, hj, rfl, rfl, hsp, hol, hno, hown, hbel⟩ := hrel
    obtain ⟨va, vc, rfl⟩ := hown.form
    have HO := hide hown
    have HB := hide hbel
    have hzB := hbel.size
    have HSP := hide hsp
    have HNO := hide hno
    clear hown hbel hsp hno
    by_cases hlt : j < s.length
    · have hsz : j < (ByteArray.mk s.toArray).size := by simpa [ByteArray.size] using hlt
      have hC : (ByteArray.mk s.toArray)[j]'hsz = s[j] := rfl
      have hlt' : (j : Int) < (s.length : Int) := by omega
      by_cases h32 : s[j] = 32
      · have HH := hide h32
        have hc32 : ((s[j].toNat : Int) == 32) = true := by rw [h32]; rfl
        clear h32
        go_wp2_with (first
          | (at_builtin; refine pushS rfl (.tmp 16) (.tmp 21) rfl w.heap.size (.slice va out.length vc) out (by rfl) wr (unhide HO) ((s.drop k).take (j - k)) (by rw [ba_cut]) (by rfl) (by omega) hzB ?_; intro v2 w2 ho2 hb2; have HO2 := hide ho2; have HB2 := hide (hb2 _ _ (Nat.le_refl _) (unhide HB)); clear ho2 hb2))
        refine ⟨⟨j + 1, j + 1, out ++ [(s.drop k).take (j - k)], by omega, by omega, by go_num, by go_num, ?_, by simp; omega, by simp, unhide HO2, unhide HB2⟩, by simp [Go.RowKit.intOf]; omega⟩
        rw [← unhide HSP]
        have hk2 : j - k < (s.drop k).length := by rw [List.length_drop]; omega
        have e2 : (s.drop k)[j - k] = 32 := by
          rw [List.getElem_drop]
          have e3 : k + (j - k) = j := by omega
          simp only [e3]
          exact unhide HH
        rw [spl_hit (s.drop k) (j - k) hk2 (unhide HNO) e2, List.drop_drop, show k + (j - k + 1) = j + 1 by omega]
        simp
      · have HH := hide h32
        have hc32 : ((s[j].toNat : Int) == 32) = false := by
          rw [beq_eq_false_iff_ne]
          intro e
          have : s[j].toNat = 32 := by omega
          exact h32 (UInt8.toNat_inj.1 this)
        clear h32
        go_wp2
        refine ⟨⟨k, j + 1, out, by omega, by omega, rfl, by go_num, unhide HSP, hol, ?_, unhide HO, unhide HB⟩, by simp [Go.RowKit.intOf]; omega⟩
        have hk2 : j - k < (s.drop k).length := by rw [List.length_drop]; omega
        rw [show j + 1 - k = j - k + 1 by omega, take_snoc _ _ hk2]
        intro c hc
        rcases List.mem_append.1 hc with q | q
        · exact unhide HNO c q
        · rw [List.mem_singleton.1 q, List.getElem_drop]
          have e3 : k + (j - k) = j := by omega
          simp only [e3]
          exact unhide HH
    · have hd : ¬ (j : Int) < (s.length : Int) := by omega
      have hjl : j = s.length := by omega
      have hk' : k ≤ s.length := by omega
      go_wp2_with (first
        | (at_builtin; refine pushS rfl (.tmp 25) (.tmp 29) rfl w.heap.size (.slice va out.length vc) out (by rfl) wr (unhide HO) (s.drop k) (by rw [ba_cut, List.take_of_length_le (by simp)]) (by rfl) (by omega) hzB ?_; intro v2 w2 ho2 hb2; have HO2 := hide ho2; have HB2 := hide (hb2 _ _ (Nat.le_refl _) (unhide HB)); clear ho2 hb2))
      go_ret
      have e : out ++ [s.drop k] = spl s := by
        rw [← unhide HSP, spl_one]
        have := unhide HNO
        rw [hjl, List.take_of_length_le (by simp)] at this
        exact this
      have ho := unhide HO2
      rw [e] at ho
      obtain ⟨p2, c2, rfl⟩ := ho.form
      exact ⟨p2, c2, rfl, ho, unhide HB2⟩
end Go.Proofs.YtknlafgaagimjaaDoor

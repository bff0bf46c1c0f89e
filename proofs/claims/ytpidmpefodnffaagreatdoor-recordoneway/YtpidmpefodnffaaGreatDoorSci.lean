import Derived.Test.YtpidmpefodnffaaGreatDoorSch
namespace Go.Proofs.YtpidmpefodnffaaGreatDoor
open Go.RowKit Go.Lib Go.Maps Go.Sort
def OutP (w : World) (r : List Bs × Nat) (e : Ending) (w' : World) : Prop := ∃ a cap, e = .returned (.tuple #[.slice a r.1.length cap, .int .i64 (r.2 : Int)]) ∧ OwnS w.heap.size w' (.slice a r.1.length cap) r.1 ∧ Below w.heap.size w w'
theorem own_nil (B : Nat) (w : World) : OwnS B w (.slice none 0 0) [] := World.ownsRow_nil _ _ _ _
theorem OwnS.below {B B' : Nat} {w w' : World} {v : Value} {l : List Bs} (h : OwnS B w v l) (hb : Below w.heap.size w w') (hB : B' ≤ B) : OwnS B' w' v l := by
  refine ⟨h.1, ?_⟩
  rcases h.2 with q | ⟨g, cap, cur, e1, e2, e3, e4⟩
  · exact .inl q
  · exact .inr ⟨g, cap, cur, e1, by omega, (hb.block g (Array.getElem?_eq_some_iff.1 e3).1).trans e3, e4⟩
theorem nm_len {x : Bs} (h : nm x = true) : x.length ≤ 16 := by
  simp only [nm, Bool.and_eq_true, decide_eq_true_eq] at h
  exact h.1.2
theorem rise_names {u : List Bs} (h : ∀ x ∈ u, nm x = true) : ∀ x ∈ rise u, nm x = true := fun x hx => h x (mem_rise.1 hx)
set_option maxHeartbeats 4000000 in
theorem scope_any (b m : Nat) (u : List Bs) (w : World) (hs : SetAt w b m u) (hm : m ≤ 4294967296) (hU : ∀ x ∈ u, nm x = true) :
    Calls Tryz.prog 215 #[.map (some b)] w (OutP w (bound (rise u))) := by
  have HR := hide (rising_any b m u w hs hm (fun x hx => by have := nm_len (hU x hx); omega))
  have HN := hide (rise_names hU)
  have hbd : bound (rise u) = if many (rise u) then ([], 61) else (rise u, 0) := rfl
  have htm : tm (rise u) = if many (rise u) then 61 else 0 := rfl
  have HBD := hide hbd
  have HTM := hide htm
  clear hs hU hbd htm
  generalize bound (rise u) = bd at *
  generalize rise u = l at *
  go_enter Tryz.func215, Tryz.ntmps215
  go_wp2_with fail
  refine (unhide HR).mono ?_
  rintro e w1 ⟨a, cap, rfl, ho, b1, hlm⟩
  have HT := hide (tooMany_any a l.length cap l w1 ho.sts (by omega) (fun h => tx_names (unhide HN) h))
  have HO := hide ho
  have HB := hide b1
  clear ho b1 HN HR
  cases hmn : many l
  · rw [hmn] at HBD HTM
    rw [unhide HTM] at HT
    clear HTM hmn
    go_wp2_with fail
    refine (unhide HT).mono ?_
    rintro e w2 ⟨rfl, b2⟩
    have HB2 := hide ((unhide HB).trans (b2.mono (unhide HB).size))
    have HO2 := hide ((unhide HO).below b2 (Nat.le_refl _))
    clear b2 HO HB
    go_wp2
    go_ret2
    rw [unhide HBD]
    exact ⟨a, cap, rfl, unhide HO2, unhide HB2⟩
  · rw [hmn] at HBD HTM
    rw [unhide HTM] at HT
    clear HTM hmn
    go_wp2_with fail
    refine (unhide HT).mono ?_
    rintro e w2 ⟨rfl, b2⟩
    have HB2 := hide ((unhide HB).trans (b2.mono (unhide HB).size))
    clear b2 HO HB
    go_wp2
    go_ret2
    rw [unhide HBD]
    exact ⟨none, 0, rfl, own_nil _ _, unhide HB2⟩
theorem SetAt.below {w w' : World} {b n : Nat} {u : List Bs} (h : SetAt w b n u) (hb : Below w.heap.size w w') : SetAt w' b n u := h.only (P := fun _ => False) (Only.of_below hb) (fun q => q)
theorem Only.bel {w w' : World} {b B : Nat} (h : Only (fun k => k = b) w w') (hB : B ≤ b) (hw : B ≤ w.heap.size) : Below B w w' := h.below (Below.refl _ _) hw (fun k e => by omega)
theorem all_get (f : Bs → Bool) (l : List Bs) (k : Nat) (h : k < l.length) (hp : f (l.getD k []) = false) : l.all f = false := by
  rw [Bool.eq_false_iff]
  intro q
  rw [List.all_eq_true] at q
  have e : l.getD k [] = l[k] := by simp [h]
  rw [e, q _ (List.getElem_mem h)] at hp
  cases hp
theorem spl_lens (s : Bs) (hs : s.length < 4294967281) : Lns (spl s) := by
  have h : ∀ (s : Bs), ∀ x ∈ spl s, x.length ≤ s.length := by
    intro s
    induction s with
    | nil => intro x hx; simp [spl] at hx; subst hx; simp
    | cons c r ih =>
      intro x hx
      unfold spl at hx
      split at hx
      · rcases List.mem_cons.1 hx with q | q
        · subst q; simp
        · have := ih x q; simp only [List.length_cons]; omega
      · revert hx
        cases hq : spl r with
        | nil => intro hx; simp at hx; subst hx; simp
        | cons a t =>
          intro hx
          rw [hq] at ih
          rcases List.mem_cons.1 hx with q | q
          · subst q; have := ih a (by simp); simp only [List.length_cons]; omega
          · have := ih x (by simp [q]); simp only [List.length_cons]; omega
  intro j
  by_cases hj : j < (spl s).length
  · have e : (spl s).getD j [] = (spl s)[j] := by simp [hj]
    rw [e]
    have := h s _ (List.getElem_mem hj)
    omega
  · have e : (spl s).getD j [] = [] := by simp [List.getElem?_eq_none (Nat.le_of_not_lt hj)]
    rw [e]
    simp
theorem lns_one (x : Bs) (h : x.length ≤ 9223372036854775807) : Lns [x] := by
  intro j
  cases j with
  | zero => exact h
  | succ j => simp
set_option maxHeartbeats 8000000 in
set_option maxRecDepth 8000 in
theorem Parse_any (s : Bs) (w : World) (hs : s.length < 4294967281) : Calls Tryz.prog 212 #[S s] w (OutP w (parse s)) := by
  by_cases h0 : s = []
  · subst h0
    have HE : Hid (parse [] = ([], 0)) := hide rfl
    generalize parse [] = r at *
    go_enter Tryz.func212, Tryz.ntmps212
    go_wp2
    go_ret2
    rw [unhide HE]
    exact ⟨none, 0, rfl, own_nil _ _, Below.refl _ _⟩
  · have HE : Hid (parse s = if (spl s).all nm then bound (rise (spl s)) else ([], 60)) := hide (by unfold parse; rw [if_neg h0])
    have hmk : (Instr.makeMap 287 none).run Tryz.prog w = .ok (.map (some w.heap.size)) (w.alloc (.map #[] 0)) := rfl
    have hb0 : Below w.heap.size w (w.alloc (.map #[] 0)) := (Below.refl _ w).alloc (Nat.le_refl _) _
    have HSP := hide (split_any s (w.alloc (.map #[] 0)) hs)
    have HLN := hide (spl_lens s hs)
    have hcn := spl_cnt s
    have HST := hide (show Sts _ (some ⟨w.heap.size + 1, 0, none⟩) _ _ from by have := sts_new (w.alloc (.map #[] 0)) (spl s); simpa using this)
    have HSET := hide ((setAt_new w).below ((Below.refl _ _).alloc (Nat.le_refl _) (.cells (cellsS (spl s)) 9)))
    have HB0 := hide (hb0.alloc (by simp) (.cells (cellsS (spl s)) 9))
    have heq : List.isEmpty s = false := by
      cases s with
      | nil => exact absurd rfl h0
      | cons c r => rfl
    clear hb0 h0
    generalize parse s = r at *
    generalize spl s = u at *
    go_enter Tryz.func212, Tryz.ntmps212
    go_wp2_with (first | (go_at_call 213; refine (unhide HSP).mono ?_; rintro e w2 ⟨rfl, rfl⟩))
    go_loopw [13] (fun i wr => ∃ k : Nat, k ≤ u.length ∧ i = .int .i64 k ∧ (u.take k).all nm = true ∧ SetAt wr w.heap.size k (u.take k) ∧ Sts wr (some ⟨w.heap.size + 1, 0, none⟩) u.length u ∧ Below w.heap.size w wr) (fun i _ => u.length - (Go.RowKit.intOf i).toNat)
    case atStart => exact ⟨0, Nat.zero_le _, rfl, rfl, by simpa using unhide HSET, unhide HST, unhide HB0⟩
    case round =>
      obtain ⟨k, hk, rfl, hall, hset, hst, hbel⟩ := hrel
      clear HST HSET HB0 HSP hmk heq
      by_cases hlt : k < u.length
      · obtain ⟨p, o, e1, hpl, hc0⟩ := hst.at hlt
        cases e1
        rw [Nat.zero_add] at hc0
        have hlt' : (k : Int) < (u.length : Int) := by omega
        have HNM := hide (fun W => isName_any (u.getD k []) W (unhide HLN k))
        have HNO := hide (all_get nm u k hlt)
        have HTK := hide (show u.take (k + 1) = u.take k ++ [u.getD k []] by rw [take_snocS u k hlt]; simp [hlt])
        have HL1 := hide (lns_one _ (unhide HLN k))
        have HAL := hide hall
        have HSE := hide hset
        have HS := hide hst
        have HB := hide hbel
        clear hall hset hst hbel
        generalize u.getD k [] = x at *
        cases hx : nm x
        · rw [hx] at HNM
          have HF := hide (unhide HNO hx)
          clear HNO HTK HL1 hx HAL HSE HS
          go_wp2_with (first | (go_at_call 166; refine (unhide HNM _).mono ?_; rintro e w2 ⟨rfl, rfl⟩))
          go_ret2
          rw [unhide HE, unhide HF]
          exact ⟨none, 0, rfl, own_nil _ _, unhide HB⟩
        · rw [hx] at HNM
          have HALL := hide (show (u.take (k + 1)).all nm = true by rw [unhide HTK]; simp [unhide HAL, hx])
          have hba : Below wr.heap.size wr (wr.alloc (.cells #[S x] 9)) := (Below.refl _ _).alloc (Nat.le_refl _) _
          have HADD := hide (add_any w.heap.size k (u.take k) (some ⟨wr.heap.size, 0, none⟩) 1 1 [x] (wr.alloc (.cells #[S x] 9)) ((unhide HSE).below hba) (sts_new wr [x]) (by omega) (by omega) (unhide HL1))
          have HST2 := hide ((unhide HS).below hba)
          have HB2 := hide ((unhide HB).trans (hba.mono (unhide HB).size))
          have hzz : w.heap.size ≤ (wr.alloc (.cells #[S x] 9)).heap.size := (unhide HB2).size
          have HNE := hide ((unhide HSE).below hba)
          clear HNO HL1 hx HAL HSE HS hba
          go_wp2_with (first | (go_at_call 166; refine (unhide HNM _).mono ?_; rintro e w2 ⟨rfl, rfl⟩) | (go_at_call 214; refine (unhide HADD).mono ?_; rintro e w3 ⟨rfl, hs3, ho3⟩; have HS3 := hide hs3; have HO3 := hide ho3; clear hs3 ho3))
          refine ⟨⟨k + 1, by omega, by go_num, unhide HALL, by rw [unhide HTK]; exact unhide HS3, (unhide HST2).only (unhide HO3) (fun p o j v e hc => (unhide HNE).ne hc), (unhide HB2).trans ((unhide HO3).bel (Nat.le_refl _) hzz)⟩, ?_⟩
          simp [Go.RowKit.intOf]; omega
      · have hd : ¬ (k : Int) < (u.length : Int) := by omega
        have e : u.take k = u := List.take_of_length_le (by omega)
        have ek : k = u.length := by omega
        rw [e] at hall hset
        have HALL := hide hall
        have HSC := hide (scope_any w.heap.size k u wr hset (by omega) (List.all_eq_true.1 hall))
        have HB := hide hbel
        clear hall hset hst hbel e ek
        go_wp2_with fail
        refine (unhide HSC).mono ?_
        rintro e w2 ⟨a, cap, rfl, ho, b2⟩
        have HO := hide ho
        have HB2 := hide ((unhide HB).trans (b2.mono (unhide HB).size))
        clear ho b2
        go_wp2
        go_ret2
        rw [unhide HE, unhide HALL]
        exact ⟨a, cap, rfl, (unhide HO).below (Below.refl _ _) (unhide HB).size, unhide HB2⟩
end Go.Proofs.YtpidmpefodnffaaGreatDoor

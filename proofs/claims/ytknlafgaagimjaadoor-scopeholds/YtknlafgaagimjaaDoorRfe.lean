import Derived.Test.YtknlafgaagimjaaDoorRfd
namespace Go.Proofs.YtknlafgaagimjaaDoor
open Go.RowKit Go.Lib
theorem run_gtr (x y : Bs) (W : World) : (binOp .gtr 9 (S x) (S y)).run Tryd.prog W = .ok (.bool (decide (y < x))) W := by
  have e : (!(Op.bytesLess (ByteArray.mk x.toArray).toList (ByteArray.mk y.toArray).toList || (ByteArray.mk x.toArray).toList == (ByteArray.mk y.toArray).toList)) = decide (y < x) := by
    have e1 : ∀ z : Bs, (ByteArray.mk z.toArray).toList = z := fun z => by simp [ByteArray.toList_eq]
    rw [e1, e1, less_eq]
    by_cases h : y < x
    · have h1 : ¬ x < y := fun q => lt_irrefl' _ (lt_trans' h q)
      have h2 : x ≠ y := fun q => by rw [q] at h; exact lt_irrefl' _ h
      simp [h, h1, h2]
    · by_cases h2 : x = y
      · simp [h2]
      · have h1 : x < y := lt_total' h (fun q => h2 q.symm)
        simp [h, h1]
  rw [← e]
  simp [binOp, Op.stringOp]
set_option maxHeartbeats 4000000 in
set_option maxRecDepth 8000 in
theorem has_any (a : Option Addr) (n cap : Nat) (l : List Bs) (x : Bs) (w : World) (hp : Sts w a n l) (hn : n ≤ 9223372036854775806) :
    Calls Tryd.prog 49 #[.slice a n cap, S x] w fun e w' => e = .returned (.bool (l.contains x)) ∧ w' = w := by
  have HP := hide hp
  have HN := hide hp.1
  obtain ⟨T, hT⟩ : ∃ T, T = l.contains x := ⟨_, rfl⟩
  rw [← hT]
  have HTT := hide hT
  clear hp hT
  go_enter Tryd.func49, Tryd.ntmps49
  go_wp2
  go_loop [5] (fun i => ∃ k : Nat, k ≤ n ∧ i = .int .i64 k ∧ (l.take k).contains x = false) (fun i => n - (Go.RowKit.intOf i).toNat)
  case atStart => exact ⟨0, by omega, rfl, by simp⟩
  case round =>
    obtain ⟨k, hk, rfl, hno⟩ := hrel
    by_cases hlt : k < n
    · obtain ⟨p, o, rfl, hpl, hc0⟩ := (unhide HP).at hlt
      have hkl : k < l.length := by have := unhide HN; omega
      have hlt' : (k : Int) < (n : Int) := by omega
      have HNO := hide hno
      have HT := hide (take_snoc l k hkl)
      have HG := hide (show l.getD k [] = l[k] by simp [hkl])
      have HM := hide (List.getElem_mem hkl)
      clear hno
      rw [unhide HG] at hc0
      generalize l[k] = y at *
      by_cases he : y = x
      · have hq : (y == x) = true := by simp [he]
        have HC := hide (show l.contains x = true by rw [List.contains_iff_mem, ← he]; exact unhide HM)
        clear he
        go_wp2
        go_ret
        exact ⟨ret_bool (by rw [unhide HTT, unhide HC]), rfl⟩
      · have hq : (y == x) = false := by simp [he]
        have HC := hide (show (l.take (k + 1)).contains x = false by rw [unhide HT]; have := unhide HNO; simp only [List.contains_eq_mem, List.mem_append, List.mem_singleton, decide_eq_false_iff_not] at this ⊢; exact fun q => q.elim this (fun e => he e.symm))
        clear he
        go_wp2
        go_round
        case rel => exact ⟨k + 1, by omega, by go_num, unhide HC⟩
        case measure => simp [Go.RowKit.intOf]; omega
    · have hd : ¬ (k : Int) < (n : Int) := by omega
      rw [List.take_of_length_le (by have := unhide HN; omega)] at hno
      have HNO := hide hno
      clear hno
      go_wp2
      go_ret
      exact ⟨ret_bool (by rw [unhide HTT, unhide HNO]), rfl⟩
/-! ### A name more -/
/-- How far a name has been laid among those that rise. -/
def Laid (x : Bs) (u : List Bs) (d : Bool) (out : List Bs) : Prop :=
  (d = false ∧ out = u ∧ ∀ y ∈ u, y < x) ∨ (d = true ∧ ∃ pre z post, u = pre ++ z :: post ∧ out = pre ++ x :: z :: post ∧ (∀ y ∈ pre, y < x) ∧ ∀ y ∈ z :: post, x < y)
theorem Laid.len {x : Bs} {u out : List Bs} {d : Bool} (h : Laid x u d out) : out.length ≤ u.length + 1 := by
  rcases h with ⟨_, rfl, _⟩ | ⟨_, p, z, q, rfl, rfl, _⟩
  · omega
  · simp; omega
theorem Laid.next {x : Bs} {u out : List Bs} {d : Bool} (h : Laid x u d out) {y : Bs} (hr : Rs (u ++ [y])) (hne : y ≠ x) (hd : d = true ∨ ¬ x < y) : Laid x (u ++ [y]) d (out ++ [y]) := by
  rcases h with ⟨h1, rfl, h2⟩ | ⟨h1, p, z0, q, rfl, rfl, h3, h4⟩
  · refine .inl ⟨h1, rfl, fun z hz => ?_⟩
    rcases List.mem_append.1 hz with k | k
    · exact h2 z k
    · rw [List.mem_singleton.1 k]
      rcases hd with hd | hd
      · rw [h1] at hd; cases hd
      · exact lt_total' hd (fun e => hne e.symm)
  · refine .inr ⟨h1, p, z0, q ++ [y], by simp, by simp, h3, fun z hz => ?_⟩
    have hz' : z ∈ (z0 :: q) ++ [y] := by simpa using hz
    rcases List.mem_append.1 hz' with k | k
    · exact h4 z k
    · rw [List.mem_singleton.1 k]
      exact lt_trans' (h4 z0 (by simp)) ((List.pairwise_append.1 hr).2.2 z0 (by simp) y (by simp))
theorem Laid.put {x : Bs} {u out : List Bs} (h : Laid x u false out) {y : Bs} (hxy : x < y) : Laid x (u ++ [y]) true (out ++ [x] ++ [y]) := by
  rcases h with ⟨_, rfl, h2⟩ | ⟨h1, _⟩
  · exact .inr ⟨rfl, out, y, [], rfl, by simp, h2, fun z hz => by rw [List.mem_singleton.1 hz]; exact hxy⟩
  · cases h1
theorem Laid.done {x : Bs} {u out : List Bs} {d : Bool} (h : Laid x u d out) (hr : Rs u) : ins x u = if d then out else out ++ [x] := by
  rcases h with ⟨rfl, rfl, h2⟩ | ⟨rfl, p, z, q, rfl, rfl, h3, h4⟩
  · refine rs_ext (rs_ins hr) ?_ fun y => ?_
    · exact List.pairwise_append.2 ⟨hr, by simp, fun a ha b hb => by rw [List.mem_singleton.1 hb]; exact h2 a ha⟩
    · rw [mem_ins]; simp [or_comm]
  · obtain ⟨r1, r2, r3⟩ := List.pairwise_append.1 hr
    refine rs_ext (rs_ins hr) ?_ fun y => ?_
    · refine List.pairwise_append.2 ⟨r1, List.pairwise_cons.2 ⟨h4, r2⟩, fun a ha b hb => ?_⟩
      rcases List.mem_cons.1 hb with rfl | hb
      · exact h3 a ha
      · exact r3 a ha b hb
    · rw [mem_ins]
      simp only [List.mem_append, List.mem_cons, if_true]
      constructor
      · rintro (k | k | k | k) <;> simp [k]
      · rintro (k | k | k | k) <;> simp [k]
theorem ins_has {x : Bs} {l : List Bs} (hr : Rs l) (h : l.contains x = true) : ins x l = l :=
  rs_ext (rs_ins hr) hr fun y => by
    rw [mem_ins]
    exact ⟨fun q => q.elim (fun e => by rw [e]; exact List.contains_iff_mem.1 h) id, .inr⟩
theorem rs_take {l : List Bs} (h : Rs l) (k : Nat) : Rs (l.take k) := h.sublist (List.take_sublist k l)
set_option maxHeartbeats 8000000 in
set_option maxRecDepth 8000 in
theorem with_any (B : Nat) (a : Option Addr) (cap : Nat) (l : List Bs) (x : Bs) (w : World) (hown : Own B w (.slice a l.length cap) l) (hB : B ≤ w.heap.size) (hn : l.length ≤ 100000000000) (hr : Rs l) :
    Calls Tryd.prog 31 #[.slice a l.length cap, S x] w fun e w' => ∃ a' cap', e = .returned (.slice a' (ins x l).length cap') ∧ Own B w' (.slice a' (ins x l).length cap') (ins x l) ∧ Below w.heap.size w w' := by
  have HH := hide (has_any a l.length cap l x w hown.sts (by omega))
  cases hc : l.contains x
  · rw [hc] at HH
    have HP := hide hown.sts
    have HR := hide hr
    have HNC := hide hc
    obtain ⟨res, hres⟩ : ∃ res, res = ins x l := ⟨_, rfl⟩
    rw [← hres]
    have HRES := hide hres
    clear hown hc hr hres
    go_enter Tryd.func31, Tryd.ntmps31
    go_wp2_with (first | (go_at_call 49; refine (unhide HH).mono ?_; rintro e w2 ⟨rfl, rfl⟩))
    go_loopw [6, 7, 8] (fun v d i wq => ∃ (k : Nat) (db : Bool) (out : List Bs), k ≤ l.length ∧ i = .int .i64 k ∧ d = .bool db ∧ Laid x (l.take k) db out ∧ Own w2.heap.size wq v out ∧ Below w2.heap.size w2 wq) (fun _ _ i _ => l.length - (Go.RowKit.intOf i).toNat)
    case atStart => exact ⟨0, false, [], by omega, rfl, rfl, .inl ⟨rfl, rfl, by simp⟩, own_nil _ _, Below.refl _ _⟩
    case round =>
      obtain ⟨k, db, out, hk, rfl, rfl, hlaid, ho, hbel⟩ := hrel
      obtain ⟨va, vc, rfl⟩ := ho.form
      have HO := hide ho
      have HB := hide hbel
      have hzB := hbel.size
      have hol := hlaid.len
      rw [List.length_take] at hol
      have HLD := hide hlaid
      by_cases hlt : k < l.length
      · obtain ⟨p, o, rfl, hpl, hcw⟩ := (unhide HP).at hlt
        have HT := hide (take_snoc l k hlt)
        have hG : l.getD k [] = l[k] := by simp [hlt]
        rw [hG] at hcw
        have hc0 := (hbel.cell (p := ⟨p, o + k, none⟩) hpl).trans hcw
        have HCW := hide hcw
        have HNE := hide (show l[k] ≠ x from fun e => by have h1 := unhide HNC; rw [← e, List.contains_iff_mem.2 (List.getElem_mem hlt)] at h1; cases h1)
        have HRT := hide (show Rs (l.take k ++ [l[k]]) by rw [← unhide HT]; exact rs_take (unhide HR) (k + 1))
        have hlt' : (k : Int) < (l.length : Int) := by omega
        clear ho hbel hlaid hG HRES hcw
        generalize l[k] = y at *
        have hq : ∀ W, (binOp .gtr 9 (S y) (S x)).run Tryd.prog W = .ok (.bool (decide (x < y))) W := run_gtr y x
        cases db
        · by_cases hxy : x < y
          · rw [decide_eq_true hxy] at hq
            have HL2 := hide ((unhide HLD).put hxy)
            clear hxy HLD
            go_wp2_with (first
              | (at_builtin; refine pushS rfl (.tmp 30) (.tmp 32) rfl w2.heap.size (.slice va out.length vc) out (by rfl) wr (unhide HO) x (by rfl) (by rfl) (by omega) hzB ?_; intro v3 w3 ho3 hb3; have HO3 := hide ho3; have HB3 := hide (hb3 _ _ (Nat.le_refl _) (unhide HB)); have hz3 := (unhide HB3).size; have hc3 := ((unhide HB3).cell (p := ⟨p, o + k, none⟩) hpl).trans (unhide HCW); have hln3 := hol; clear ho3 hb3)
              | (at_builtin; refine pushS rfl (.tmp 34) (.tmp 39) rfl w2.heap.size v3 (out ++ [x]) (by rfl) w3 (unhide HO3) y (by rfl) (by rfl) (by simp; omega) hz3 ?_; intro v4 w4 ho4 hb4; have HO4 := hide ho4; have HB4 := hide (hb4 _ _ (Nat.le_refl _) (unhide HB3)); clear ho4 hb4)
              | fail)
            refine ⟨⟨k + 1, true, out ++ [x] ++ [y], by omega, by go_num, rfl, by rw [unhide HT]; exact unhide HL2, unhide HO4, unhide HB4⟩, by simp [Go.RowKit.intOf]; omega⟩
          · rw [decide_eq_false hxy] at hq
            have HL2 := hide ((unhide HLD).next (unhide HRT) (unhide HNE) (.inr hxy))
            clear hxy HLD
            go_wp2_with (first
              | (at_builtin; refine pushS rfl (.tmp 34) (.tmp 39) rfl w2.heap.size (.slice va out.length vc) out (by rfl) wr (unhide HO) y (by rfl) (by rfl) (by omega) hzB ?_; intro v4 w4 ho4 hb4; have HO4 := hide ho4; have HB4 := hide (hb4 _ _ (Nat.le_refl _) (unhide HB)); clear ho4 hb4)
              | fail)
            refine ⟨⟨k + 1, false, out ++ [y], by omega, by go_num, rfl, by rw [unhide HT]; exact unhide HL2, unhide HO4, unhide HB4⟩, by simp [Go.RowKit.intOf]; omega⟩
        · have HL2 := hide ((unhide HLD).next (unhide HRT) (unhide HNE) (.inl rfl))
          clear HLD hq
          go_wp2_with (first
            | (at_builtin; refine pushS rfl (.tmp 34) (.tmp 39) rfl w2.heap.size (.slice va out.length vc) out (by rfl) wr (unhide HO) y (by rfl) (by rfl) (by omega) hzB ?_; intro v4 w4 ho4 hb4; have HO4 := hide ho4; have HB4 := hide (hb4 _ _ (Nat.le_refl _) (unhide HB)); clear ho4 hb4)
            | fail)
          refine ⟨⟨k + 1, true, out ++ [y], by omega, by go_num, rfl, by rw [unhide HT]; exact unhide HL2, unhide HO4, unhide HB4⟩, by simp [Go.RowKit.intOf]; omega⟩
      · have hd : ¬ (k : Int) < (l.length : Int) := by omega
        have e : l.take k = l := List.take_of_length_le (by omega)
        rw [e] at hlaid
        have HD := hide (hlaid.done (unhide HR))
        clear ho hbel hlaid e HLD HH
        cases db
        · go_wp2_with (first
            | (at_builtin; refine pushS rfl (.tmp 43) (.tmp 45) rfl w2.heap.size (.slice va out.length vc) out (by rfl) wr (unhide HO) x (by rfl) (by rfl) (by omega) hzB ?_; intro v4 w4 ho4 hb4; have HO4 := hide ho4; have HB4 := hide (hb4 _ _ (Nat.le_refl _) (unhide HB)); clear ho4 hb4)
            | fail)
          go_ret
          have e1 : res = out ++ [x] := by rw [unhide HRES, unhide HD]; rfl
          rw [e1]
          have ho := unhide HO4
          obtain ⟨p4, c4, rfl⟩ := ho.form
          exact ⟨p4, c4, rfl, ho.below (Below.refl _ _) hB, unhide HB4⟩
        · go_wp2
          go_ret
          have e1 : res = out := by rw [unhide HRES, unhide HD]; rfl
          rw [e1]
          exact ⟨va, vc, rfl, (unhide HO).below (Below.refl _ _) hB, unhide HB⟩
  · rw [hc] at HH
    have HI := hide (ins_has hr hc)
    have HO := hide hown
    obtain ⟨res, hres⟩ : ∃ res, res = ins x l := ⟨_, rfl⟩
    rw [← hres]
    have HRES := hide hres
    clear hown hc hr hres
    go_enter Tryd.func31, Tryd.ntmps31
    go_wp2_with (first | (go_at_call 49; refine (unhide HH).mono ?_; rintro e w2 ⟨rfl, rfl⟩))
    go_ret
    have e1 : res = l := by rw [unhide HRES, unhide HI]
    rw [e1]
    exact ⟨a, cap, rfl, unhide HO, Below.refl _ _⟩
end Go.Proofs.YtknlafgaagimjaaDoor

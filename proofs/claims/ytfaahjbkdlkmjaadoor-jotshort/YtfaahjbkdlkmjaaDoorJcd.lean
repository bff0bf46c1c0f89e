import Derived.Test.YtfaahjbkdlkmjaaDoorJce
/- Jot: the depth of a value. -/
namespace Go.Proofs.YtfaahjbkdlkmjaaDoor
open Go Go.RowKit Go.Lib
set_option linter.unusedVariables false
set_option linter.unusedSimpArgs false
def DpO (j : J) (w : World) (e : Ending) (w' : World) : Prop := Below w.heap.size w w' ∧ e = if may j = true then .returned (I (dep j)) else pan 43 0
theorem mayL_take_succ (xs : List J) (k : Nat) (x : J) (h : xs[k]? = some x) (hm : mayL (xs.take k) = true) : mayL (xs.take (k + 1)) = may x := by
  have hk : k < xs.length := (List.getElem?_eq_some_iff.1 h).1
  have e : xs[k] = x := (List.getElem?_eq_some_iff.1 h).2
  rw [List.take_succ_eq_append_getElem hk, e]
  cases hx : may x with
  | true =>
    rw [mayL_iff] at hm ⊢
    intro y hy
    rcases List.mem_append.1 hy with hy | hy
    · exact hm y hy
    · rw [List.mem_singleton] at hy; rw [hy]; exact hx
  | false =>
    rw [Bool.eq_false_iff]
    intro q
    rw [mayL_iff] at q
    rw [q x (by simp)] at hx
    cases hx
theorem mayL_bad {xs : List J} {k : Nat} {x : J} (h : xs[k]? = some x) (hx : may x = false) : mayL xs = false := by
  rw [Bool.eq_false_iff]
  intro q
  rw [mayL_iff] at q
  rw [q x (List.mem_of_getElem? h)] at hx
  cases hx
theorem depL_append : ∀ (l m : List J), depL (l ++ m) = max (depL l) (depL m)
  | [], m => by simp [depL]
  | x :: l, m => by rw [List.cons_append, depL_cons, depL_cons, depL_append l m]; omega
theorem depL_take_succ (xs : List J) (k : Nat) (x : J) (h : xs[k]? = some x) : depL (xs.take (k + 1)) = max (depL (xs.take k)) (dep x) := by
  have hk : k < xs.length := (List.getElem?_eq_some_iff.1 h).1
  have e : xs[k] = x := (List.getElem?_eq_some_iff.1 h).2
  rw [List.take_succ_eq_append_getElem hk, e, depL_append]
  simp [depL]
theorem depL_take_le (xs : List J) (k : Nat) : depL (xs.take k) ≤ depL xs := by
  have := congrArg depL (List.take_append_drop k xs).symm
  rw [depL_append] at this
  omega
theorem depL_mem {xs : List J} {x : J} (h : x ∈ xs) : dep x ≤ depL xs := (depL_iff (depL xs) xs).1 (Nat.le_refl _) x h
theorem run_max (a b : Int) (W : World) (ty : TypeId) (at9 : Array TypeId) : (Builtin.max_ at9 ty #[I a, I b]).run Tryd.prog W = .ok (I (max a b)) W := by
  show ((Builtin.max2 (I a) (I b)) : Sem Value).run Tryd.prog W = _
  by_cases h : a < b
  · have e : max a b = b := by omega
    simp [Builtin.max2, go_sem, h, e]
  · have e : max a b = a := by omega
    simp [Builtin.max2, go_sem, h, e]
/-- What depth comes to, of every value. -/
def DpC (j : J) : Prop := ∀ (na : Option Addr) (nc : Nat) (xa : Option Addr) (xc : Nat) (w : World), Env w → JP w na xa j → dep j ≤ 1000000 → Calls Tryd.prog 12 #[vJ j.k j.n j.t na j.ns.length nc xa j.xs.length xc] w (DpO j w)
set_option maxHeartbeats 8000000 in
set_option maxRecDepth 20000 in
theorem depth_step (k n : Int) (t : Bs) (ns : List Bs) (xs : List J) (IH : ∀ x ∈ xs, DpC x) : DpC (.mk k n t ns xs) := by
  intro na nc xa xc w hE hj hd
  rw [JP] at hj
  obtain ⟨ht, hn, hx, hxs⟩ := hj
  show Calls Tryd.prog 12 #[vJ k n t na ns.length nc xa xs.length xc] w _
  have hb0 : Below w.heap.size w (w.alloc (.cells #[I k, I n, S t, .slice na ns.length nc, .slice xa xs.length xc] 25)) := (Below.refl _ _).alloc (Nat.le_refl _) _
  have HO := hide (open_any k n t na ns nc xa xs.length xc _ (hE.below hb0) (hn.keep hb0) hx ht)
  unfold vJ at HO ⊢
  have HB0 := hide hb0
  have HIH := hide IH
  have HE := hide hE
  have HXS := hide hxs
  have HD := hide hd
  clear hb0 IH hE hn hxs hd
  go_enter Tryd.func12, Tryd.ntmps12
  go_wp2_with fail
  refine (unhide HO).mono ?_
  rintro e w1 ⟨h1, he⟩
  have HB1 := hide ((unhide HB0).trans (h1.mono (unhide HB0).size))
  clear h1 HO HB0
  cases ho : own k n t ns xs.length with
  | false =>
    rw [ho, if_neg (by decide)] at he
    subst he
    have hm : may (.mk k n t ns xs) = false := by rw [may, ho]; rfl
    go_wp2_with fail
    exact ⟨rfl, unhide HB1, by rw [hm]; rfl⟩
  | true =>
    rw [ho, if_pos rfl] at he
    subst he
    have HOW := hide ho
    clear ho
    rcases own_kinds (unhide HOW) with rfl | rfl | rfl | rfl | rfl | rfl | rfl
    · rw [show opn 0 n t na ns.length nc xa xs.length xc = .iface 64 (.agg #[]) from rfl]
      have t1 := ta_64_59
      have t2 := ta_64_61
      have hx0 : xs = [] := by
        have := unhide HOW
        cases xs with
        | nil => rfl
        | cons a l => simp [own] at this
      go_wp2_with fail
      go_ret
      refine ⟨unhide HB1, ?_⟩
      rw [may, unhide HOW, hx0]
      rfl
    · rw [show opn 1 n t na ns.length nc xa xs.length xc = .iface 66 (.bool false) from rfl]
      have t1 := ta_66_59
      have t2 := ta_66_61
      have hx0 : xs = [] := by
        have := unhide HOW
        cases xs with
        | nil => rfl
        | cons a l => simp [own] at this
      go_wp2_with fail
      go_ret
      refine ⟨unhide HB1, ?_⟩
      rw [may, unhide HOW, hx0]
      rfl
    · rw [show opn 2 n t na ns.length nc xa xs.length xc = .iface 66 (.bool true) from rfl]
      have t1 := ta_66_59
      have t2 := ta_66_61
      have hx0 : xs = [] := by
        have := unhide HOW
        cases xs with
        | nil => rfl
        | cons a l => simp [own] at this
      go_wp2_with fail
      go_ret
      refine ⟨unhide HB1, ?_⟩
      rw [may, unhide HOW, hx0]
      rfl
    · rw [show opn 3 n t na ns.length nc xa xs.length xc = .iface 68 (I n) from rfl]
      have t1 := ta_68_59
      have t2 := ta_68_61
      have hx0 : xs = [] := by
        have := unhide HOW
        cases xs with
        | nil => rfl
        | cons a l => simp [own] at this
      go_wp2_with fail
      go_ret
      refine ⟨unhide HB1, ?_⟩
      rw [may, unhide HOW, hx0]
      rfl
    · rw [show opn 4 n t na ns.length nc xa xs.length xc = .iface 70 (S t) from rfl]
      have t1 := ta_70_59
      have t2 := ta_70_61
      have hx0 : xs = [] := by
        have := unhide HOW
        cases xs with
        | nil => rfl
        | cons a l => simp [own] at this
      go_wp2_with fail
      go_ret
      refine ⟨unhide HB1, ?_⟩
      rw [may, unhide HOW, hx0]
      rfl
    · rw [show opn 5 n t na ns.length nc xa xs.length xc = .iface 59 (.slice xa xs.length xc) from rfl]
      have t1 := ta_59_59
      have t2 := ta_59_61
      have hdx : depL xs + 1 ≤ 1000000 := by have := unhide HD; rw [dep] at this; simpa using this
      have HDX := hide hdx
      clear hdx
      go_wp2_with fail
      go_loopw [7, 23] (fun d9 i9 wr => ∃ k : Nat, i9 = .int .i64 k ∧ d9 = .int .i64 (depL (xs.take k) : Nat) ∧ k ≤ xs.length ∧ mayL (xs.take k) = true ∧ Below w.heap.size w wr) (fun _ i9 _ => xs.length - (Go.RowKit.intOf i9).toNat)
      case atStart => exact ⟨0, rfl, by simp [depL], by omega, by simp [mayL], unhide HB1⟩
      case round =>
        obtain ⟨k, rfl, rfl, hk, hma, hb⟩ := hrel
        have hdk := depL_take_le xs k
        have hdd := unhide HDX
        by_cases hlt : k < xs.length
        · have hlt' : (k : Int) < (xs.length : Int) := by omega
          obtain ⟨b, q, rfl, hjs⟩ := unhide HXS (by omega)
          obtain ⟨x, hxk⟩ : ∃ x, xs[k]? = some x := ⟨_, List.getElem?_eq_getElem hlt⟩
          obtain ⟨na2, nc2, xa2, xc2, hc, hjp⟩ := JsP.at xs k x hjs hxk
          have c0 : wr.cell? ⟨b, q + k * 5, none⟩ = some (I x.k) := cell_old hb (hc 0 _ rfl)
          have c1 : wr.cell? ⟨b, q + k * 5 + 1, none⟩ = some (I x.n) := cell_old hb (hc 1 _ rfl)
          have c2 : wr.cell? ⟨b, q + k * 5 + 2, none⟩ = some (S x.t) := cell_old hb (hc 2 _ rfl)
          have c3 : wr.cell? ⟨b, q + k * 5 + 3, none⟩ = some (.slice na2 x.ns.length nc2) := cell_old hb (hc 3 _ rfl)
          have c4 : wr.cell? ⟨b, q + k * 5 + 4, none⟩ = some (.slice xa2 x.xs.length xc2) := cell_old hb (hc 4 _ rfl)
          have hba : Below w.heap.size w (wr.alloc (.cells #[I x.k, I x.n, S x.t, .slice na2 x.ns.length nc2, .slice xa2 x.xs.length xc2] 25)) := hb.alloc hb.size _
          have hxd : dep x ≤ depL xs := depL_mem (List.mem_of_getElem? hxk)
          have HX := hide ((unhide HIH) x (List.mem_of_getElem? hxk) na2 nc2 xa2 xc2 _ ((unhide HE).below hba) (JP.keep hba x hjp) (by omega))
          have HBA := hide hba
          have HMA := hide hma
          have HK := hide hxk
          have hmx := fun W ty at9 => run_max (depL (xs.take k) : Nat) (dep x : Nat) W ty at9
          have htk := depL_take_succ xs k x hxk
          unfold vJ at HX
          clear hjs hc hjp hb hba hma hxk
          go_wp2_with fail
          refine (unhide HX).mono ?_
          rintro e w2 ⟨h2, he⟩
          have HB2 := hide ((unhide HBA).trans (h2.mono (unhide HBA).size))
          clear h2 HX HBA c0 c1 c2 c3 c4
          cases hmy : may x with
          | false =>
            rw [hmy, if_neg (by decide)] at he
            subst he
            have hm : mayL xs = false := mayL_bad (unhide HK) hmy
            go_wp2_with fail
            exact ⟨rfl, unhide HB2, by rw [may, hm, Bool.and_false]; rfl⟩
          | true =>
            rw [hmy, if_pos rfl] at he
            subst he
            have hm2 : mayL (xs.take (k + 1)) = true := by rw [mayL_take_succ xs k x (unhide HK) (unhide HMA), hmy]
            have HM2 := hide hm2
            clear hm2
            go_wp2_with fail
            go_roundw
            case rel => exact ⟨k + 1, by go_num, by rw [htk]; congr 1; omega, by omega, unhide HM2, unhide HB2⟩
            case measure => simp [Go.RowKit.intOf]; omega
        · have hke : k = xs.length := by omega
          subst hke
          rw [List.take_length] at hma
          have HB2 := hide hb
          have HMA := hide hma
          clear hb hma
          rw [List.take_length]
          go_wp2_with fail
          go_ret
          refine ⟨unhide HB2, ?_⟩
          rw [may, unhide HOW, unhide HMA]
          rfl
    · rw [show opn 6 n t na ns.length nc xa xs.length xc = .iface 61 (.agg #[.slice na ns.length nc, .slice xa xs.length xc]) from rfl]
      have t1 := ta_61_59
      have t2 := ta_61_61
      have hdx : depL xs + 1 ≤ 1000000 := by have := unhide HD; rw [dep] at this; simpa using this
      have HDX := hide hdx
      clear hdx
      have hb6 : Below w.heap.size w (w1.alloc (.cells #[.slice na ns.length nc, .slice xa xs.length xc] 61)) := (unhide HB1).alloc (unhide HB1).size _
      have HB6 := hide hb6
      clear hb6
      go_wp2_with fail
      go_loopw [7, 23] (fun d9 i9 wr => ∃ k : Nat, i9 = .int .i64 k ∧ d9 = .int .i64 (depL (xs.take k) : Nat) ∧ k ≤ xs.length ∧ mayL (xs.take k) = true ∧ Below w.heap.size w wr) (fun _ i9 _ => xs.length - (Go.RowKit.intOf i9).toNat)
      case atStart => exact ⟨0, rfl, by simp [depL], by omega, by simp [mayL], unhide HB6⟩
      case round =>
        obtain ⟨k, rfl, rfl, hk, hma, hb⟩ := hrel
        have hdk := depL_take_le xs k
        have hdd := unhide HDX
        by_cases hlt : k < xs.length
        · have hlt' : (k : Int) < (xs.length : Int) := by omega
          obtain ⟨b, q, rfl, hjs⟩ := unhide HXS (by omega)
          obtain ⟨x, hxk⟩ : ∃ x, xs[k]? = some x := ⟨_, List.getElem?_eq_getElem hlt⟩
          obtain ⟨na2, nc2, xa2, xc2, hc, hjp⟩ := JsP.at xs k x hjs hxk
          have c0 : wr.cell? ⟨b, q + k * 5, none⟩ = some (I x.k) := cell_old hb (hc 0 _ rfl)
          have c1 : wr.cell? ⟨b, q + k * 5 + 1, none⟩ = some (I x.n) := cell_old hb (hc 1 _ rfl)
          have c2 : wr.cell? ⟨b, q + k * 5 + 2, none⟩ = some (S x.t) := cell_old hb (hc 2 _ rfl)
          have c3 : wr.cell? ⟨b, q + k * 5 + 3, none⟩ = some (.slice na2 x.ns.length nc2) := cell_old hb (hc 3 _ rfl)
          have c4 : wr.cell? ⟨b, q + k * 5 + 4, none⟩ = some (.slice xa2 x.xs.length xc2) := cell_old hb (hc 4 _ rfl)
          have hba : Below w.heap.size w (wr.alloc (.cells #[I x.k, I x.n, S x.t, .slice na2 x.ns.length nc2, .slice xa2 x.xs.length xc2] 25)) := hb.alloc hb.size _
          have hxd : dep x ≤ depL xs := depL_mem (List.mem_of_getElem? hxk)
          have HX := hide ((unhide HIH) x (List.mem_of_getElem? hxk) na2 nc2 xa2 xc2 _ ((unhide HE).below hba) (JP.keep hba x hjp) (by omega))
          have HBA := hide hba
          have HMA := hide hma
          have HK := hide hxk
          have hmx := fun W ty at9 => run_max (depL (xs.take k) : Nat) (dep x : Nat) W ty at9
          have htk := depL_take_succ xs k x hxk
          unfold vJ at HX
          clear hjs hc hjp hb hba hma hxk
          go_wp2_with fail
          refine (unhide HX).mono ?_
          rintro e w2 ⟨h2, he⟩
          have HB2 := hide ((unhide HBA).trans (h2.mono (unhide HBA).size))
          clear h2 HX HBA c0 c1 c2 c3 c4
          cases hmy : may x with
          | false =>
            rw [hmy, if_neg (by decide)] at he
            subst he
            have hm : mayL xs = false := mayL_bad (unhide HK) hmy
            go_wp2_with fail
            exact ⟨rfl, unhide HB2, by rw [may, hm, Bool.and_false]; rfl⟩
          | true =>
            rw [hmy, if_pos rfl] at he
            subst he
            have hm2 : mayL (xs.take (k + 1)) = true := by rw [mayL_take_succ xs k x (unhide HK) (unhide HMA), hmy]
            have HM2 := hide hm2
            clear hm2
            go_wp2_with fail
            go_roundw
            case rel => exact ⟨k + 1, by go_num, by rw [htk]; congr 1; omega, by omega, unhide HM2, unhide HB2⟩
            case measure => simp [Go.RowKit.intOf]; omega
        · have hke : k = xs.length := by omega
          subst hke
          rw [List.take_length] at hma
          have HB2 := hide hb
          have HMA := hide hma
          clear hb hma
          rw [List.take_length]
          go_wp2_with fail
          go_ret
          refine ⟨unhide HB2, ?_⟩
          rw [may, unhide HOW, unhide HMA]
          rfl
theorem depth_any : ∀ j : J, DpC j
  | .mk k n t ns xs => depth_step k n t ns xs (fun x hx => depth_any x)
termination_by j => SizeOf.sizeOf j
decreasing_by
  have := List.sizeOf_lt_of_mem hx
  simp_wf
  omega
end Go.Proofs.YtfaahjbkdlkmjaaDoor

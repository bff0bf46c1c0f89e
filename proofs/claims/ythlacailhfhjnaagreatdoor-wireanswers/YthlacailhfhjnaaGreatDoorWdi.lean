import Derived.Test.YthlacailhfhjnaaGreatDoorZzap
import Derived.Test.YthlacailhfhjnaaGreatDoorZzaq
import Derived.Test.YthlacailhfhjnaaGreatDoorWdg
namespace Go.Proofs.YthlacailhfhjnaaGreatDoor
open Go.RowKit Go.Lib
def TOK : Bs := List.append [97, 98, 99, 100, 101, 102, 103, 104, 105, 106, 107, 108, 109, 110, 111, 112, 113, 114, 115, 116, 117, 118, 119, 120, 121, 122, 65, 66, 67, 68, 69, 70, 71, 72, 73, 74, 75, 76] [77, 78, 79, 80, 81, 82, 83, 84, 85, 86, 87, 88, 89, 90, 48, 49, 50, 51, 52, 53, 54, 55, 56, 57, 33, 35, 36, 37, 38, 39, 42, 43, 45, 46, 94, 95, 124, 126, 96]
theorem tok_nby : TOK.all nby = true := by decide
theorem name_ok {l : Bs} (h1 : 1 ≤ l.length) (h2 : l.length ≤ 40) (h3 : ∀ c ∈ l, c ∈ TOK) : hnm l = true := by
  unfold hnm
  rw [decide_eq_true ⟨h1, h2⟩]
  have : l.all nby = true := List.all_eq_true.2 (fun c hc => List.all_eq_true.1 tok_nby c (h3 c hc))
  rw [this]; rfl
theorem alk_cl (l : Bs) : alk l CL = (l.map low == [99, 111, 110, 116, 101, 110, 116, 45, 108, 101, 110, 103, 116, 104]) := rfl
theorem alk_te (l : Bs) : alk l TE = (l.map low == [116, 114, 97, 110, 115, 102, 101, 114, 45, 101, 110, 99, 111, 100, 105, 110, 103]) := rfl
theorem shn_of {c : UInt8} (h : 32 ≤ c.toNat ∧ c.toNat ≤ 126) : shn c = true := by unfold shn; simpa using h
theorem sx (X : ByteArray) : S X.data.toList = .string X := by
  show Value.string _ = _
  congr 1
def strlen : Value → Nat
  | .string s => s.size
  | _ => 0
set_option maxHeartbeats 8000000 in
set_option maxRecDepth 8000 in
theorem header_any (n0 v0 : Bs) (w : World) (h1 : n0.length ≤ 140737488351232) (h2 : v0.length ≤ 140737488351232) :
    Calls Tryz.prog 72 #[.agg #[S n0, S v0]] w fun e w' => (∃ f : Fl, e = .returned (.agg #[S f.1, S f.2]) ∧ hdr f = true) ∧ Below w.heap.size w w' := by
  have b0 := hide (((Below.refl w.heap.size w).alloc (Nat.le_refl _) (.cells #[S n0, S v0] 35)).alloc (by simp) (.cells #[S [], S []] 35))
  have hz0 : Hid (((w.alloc (.cells #[S n0, S v0] 35)).alloc (.cells #[S [], S []] 35)).heap.size = w.heap.size + 2) := hide (by simp)
  have x0 : Hid (((w.alloc (.cells #[S n0, S v0] 35)).alloc (.cells #[S [], S []] 35)).heap[w.heap.size]? = some (.cells #[S n0, S v0] 35 (0, 0))) := hide (by rw [heap_alloc_old _ _ (by simp)]; exact heap_alloc_new _ _)
  have x1 : Hid (((w.alloc (.cells #[S n0, S v0] 35)).alloc (.cells #[S [], S []] 35)).heap[w.heap.size + 1]? = some (.cells #[S [], S []] 35 (0, 0))) := hide (by have := heap_alloc_new (w.alloc (.cells #[S n0, S v0] 35)) (.cells #[S [], S []] 35); simpa using this)
  go_enter Tryz.func72, Tryz.ntmps72
  go_wp2_with fail
  generalize ((w.alloc (.cells #[S n0, S v0] 35)).alloc (.cells #[S [], S []] 35)) = W1 at *
  refine (letters_any TOK n0 40 W1 (by decide) (by decide) (by decide) (by decide) (by omega)).mono ?_
  rintro e w2 ⟨⟨nm, rfl, g1, g2, g3⟩, b2⟩
  have HN := hide (name_ok g1 g2 g3)
  have X2 := hide ((b2.block _ (by rw [unhide hz0]; omega)).trans (unhide x0))
  have R2 := hide ((b2.block _ (by rw [unhide hz0]; omega)).trans (unhide x1))
  have B2 := hide ((unhide b0).trans (b2.mono (by rw [unhide hz0]; omega)))
  clear b2 b0 hz0 x0 x1 g3
  go_wp2_with fail
  refine (small_any nm w2 (by omega)).mono ?_
  rintro e w3 ⟨rfl, b3⟩
  have X3 := hide ((b3.block _ (lt_of_row (unhide X2))).trans (unhide X2))
  have R3 := hide ((b3.block _ (lt_of_row (unhide R2))).trans (unhide R2))
  have B3 := hide ((unhide B2).trans (b3.mono (unhide B2).size))
  clear b3 X2 R2 B2
  have x31 : w3.cell? ⟨w.heap.size, 1, none⟩ = some (S v0) := cell_of_row w3 _ 1 _ 35 (0, 0) (unhide X3)
  have HA := hide (alk_cl nm)
  have HB := hide (alk_te nm)
  by_cases hA : (nm.map low == [99, 111, 110, 116, 101, 110, 116, 45, 108, 101, 110, 103, 116, 104]) = true
  · have hnX : True := trivial
    clear HA HB HN
    have HN := hide (show hnm [120] = true by decide)
    have HD := hide (show alk [120] CL = false ∧ alk [120] TE = false from ⟨by decide, by decide⟩)
    have HML := hide (show ([120] : Bs).length ≤ 40 by decide)
    go_wp2_with fail
    skip
    refine (plain32_any v0 997 w3 (by omega) (by omega)).mono ?_
    rintro e w4 ⟨⟨l0, rfl, g4, g5⟩, b4⟩
    have R4 := hide ((b4.block _ (lt_of_row (unhide R3))).trans (unhide R3))
    have B4 := hide ((unhide B3).trans (b4.mono (unhide B3).size))
    have G4 := hide (And.intro g4 g5)
    have r0 : w4.cell? ⟨w.heap.size + 1, 0, none⟩ = some (S []) := cell_of_row w4 _ 0 _ 35 (0, 0) (unhide R4)
    have r1 : w4.cell? ⟨w.heap.size + 1, 1, none⟩ = some (S []) := cell_of_row w4 _ 1 _ 35 (0, 0) (unhide R4)
    have rz : ∀ j, w4.frozen? ⟨w.heap.size + 1, j, none⟩ = false := fun j => frozen_of_row w4 _ j _ 35 (unhide R4)
    clear b4 X3 R3 B3 g4 g5
    go_wp2
    go_loop [5] (fun v => ∃ l : Bs, v = S l ∧ l.length ≤ 997 ∧ ∀ c ∈ l, 32 ≤ c.toNat ∧ c.toNat ≤ 126) (fun v => strlen v)
    case atStart => exact ⟨l0, rfl, (unhide G4).1, (unhide G4).2⟩
    case round =>
      clear G4
      obtain ⟨l, rfl, q1, q2⟩ := hrel
      by_cases hsp : ∃ r, l = 32 :: r
      · obtain ⟨r, rfl⟩ := hsp
        have hsz : 0 < (ByteArray.mk (32 :: r : Bs).toArray).size := by rw [ba_size]; simp
        have hC : (ByteArray.mk (32 :: r : Bs).toArray)[0]'hsz = 32 := rfl
        have hlen : (0 : Int) < ((32 :: r : Bs).length : Nat) := by simp
        have h1l : (1 : Int) ≤ ((32 :: r : Bs).length : Nat) := by simp; omega
        have HX : Hid ((ByteArray.mk (32 :: r : Bs).toArray).extract 1 (32 :: r : Bs).length = ⟨r.toArray⟩) := hide (by rw [extract_eq]; simp)
        have HQ := hide (And.intro (show r.length ≤ 997 by simp at q1; omega) (fun c hc => q2 c (List.mem_cons_of_mem _ hc)))
        have h32 : (((32 : UInt8).toNat : Nat) : Int) = 32 := rfl
        clear q1 q2
        go_wp2
        refine ⟨⟨r, ?_, (unhide HQ).1, (unhide HQ).2⟩, ?_⟩
        · have e := unhide HX
          simp only [List.length_cons] at e
          first | (rw [e]) | (show Value.string _ = _; rw [e])
        · have e := unhide HX
          simp only [List.length_cons] at e
          rw [e]
          simp only [strlen, ba_size, List.length_cons]
          omega
      · have HH := hide (show l.head? ≠ some 32 from fun e => by
          cases l with
          | nil => simp at e
          | cons x r => simp at e; exact hsp ⟨r, by rw [e]⟩)
        have HQ := hide (And.intro q1 q2)
        clear q1 q2 hsp
        cases l with
        | nil =>
          go_wp2
          go_loop [5] (fun v => ∃ X : ByteArray, v = .string X ∧ X.size ≤ 997 ∧ (∀ c ∈ X.data.toList, 32 ≤ c.toNat ∧ c.toNat ≤ 126) ∧ X.data.toList.head? ≠ some 32) (fun v => strlen v)
          case atStart => exact ⟨⟨([] : Bs).toArray⟩, rfl, by rw [ba_size]; exact (unhide HQ).1, (unhide HQ).2, unhide HH⟩
          case round =>
            clear HQ HH
            obtain ⟨X, rfl, q1, q2, q3⟩ := hrel
            by_cases hsp : ∃ r, X.data.toList = r ++ [32]
            · obtain ⟨r, hr⟩ := hsp
              have hXs : X.size = r.length + 1 := by rw [size_eq, hr, List.length_append]; rfl
              have hr998 : r.length ≤ 998 := by omega
              have hXe : X = ⟨(r ++ [32]).toArray⟩ := by
                apply ByteArray.ext
                apply Array.ext'
                simpa using hr
              have hC : X[r.length]'(by rw [hXs]; omega) = 32 := by
                subst hXe
                show (r ++ [32])[r.length] = 32
                simp
              have h32 : (((32 : UInt8).toNat : Nat) : Int) = 32 := rfl
              have HX : Hid (X.extract 0 r.length = ⟨r.toArray⟩) := hide (by rw [hXe, extract_eq]; simp)
              have HQ := hide (And.intro (show r.length ≤ 997 by omega) (And.intro (fun c hc => q2 c (by rw [hr]; exact List.mem_append_left _ hc)) (show r.head? ≠ some 32 from fun e => q3 (by
                rw [hr]
                cases r with
                | nil => simp at e
                | cons x r => simpa using e))))
              clear q1 q2 q3 hr hXe
              go_wp2
              refine ⟨⟨⟨r.toArray⟩, ?_, by rw [ba_size]; exact (unhide HQ).1, (unhide HQ).2.1, (unhide HQ).2.2⟩, ?_⟩
              · rw [unhide HX]
              · rw [unhide HX]
                simp only [strlen, ba_size, hXs]
                omega
            · have HV := hide (show hvl X.data.toList = true from by
                unfold hvl
                have e1 : X.data.toList.all shn = true := List.all_eq_true.2 (fun c hc => shn_of (q2 c hc))
                have e2 : X.data.toList.getLast? ≠ some 32 := fun e => by
                  obtain ⟨r, hr⟩ := List.getLast?_eq_some_iff.1 e
                  exact hsp ⟨r, hr⟩
                rw [e1, beq_eq_false_iff_ne.2 q3, beq_eq_false_iff_ne.2 e2]
                rfl)
              have hXl : X.data.toList.length = X.size := (size_eq X).symm
              have HLE := hide (show X.data.toList.length ≤ 997 by omega)
              clear hXl
              by_cases hz : X.size = 0
              · have hXe : X = ⟨#[]⟩ := by
                  apply ByteArray.ext
                  apply Array.ext'
                  have e0 : X.data.toList.length = 0 := (size_eq X).symm.trans hz
                  exact List.eq_nil_of_length_eq_zero e0
                subst hXe
                clear q1 q2 q3 hz hsp HLE HV
                go_wp2
                refine bodyPost_ret (v := .agg #[S [120], S []]) (by simp [results, Tryz.results72, go_sem, r0, r1]) rfl ⟨⟨[120], [], rfl, ?_⟩, ?_⟩
                · unfold hdr
                  simp only
                  rw [unhide HN, (unhide HD).1, (unhide HD).2, show hvl [] = true from rfl, decide_eq_true (by first | decide | (simp; omega))]
                  rfl
                · exact ((unhide B4).setCell (by show w.heap.size ≤ w.heap.size + 1; omega) _).setCell (by show w.heap.size ≤ w.heap.size + 1; omega) _
              · obtain ⟨n, hn⟩ : ∃ n, X.size = n + 1 := ⟨X.size - 1, by omega⟩
                have hC : ¬ ((X[n]'(by omega)).toNat : Int) = 32 := fun e => by
                  have e2 : X[n]'(by omega) = 32 := UInt8.toNat_inj.1 (by show _ = 32; omega)
                  apply hsp
                  have hl : X.data.toList.length = n + 1 := (size_eq X).symm.trans hn
                  refine ⟨X.data.toList.take n, ?_⟩
                  conv => lhs; rw [← List.take_append_drop n X.data.toList]
                  congr 1
                  rw [List.drop_eq_getElem_cons (by omega), List.drop_eq_nil_of_le (by omega)]
                  have : X.data.toList[n]'(by omega) = 32 := by rw [← e2]; rfl
                  rw [this]
                generalize hcc : X[n]'(by omega) = cc at *
                have hC2 : ((cc.toNat : Int) == 32) = false := by simpa using hC
                have hn998 : n ≤ 998 := by omega
                clear q1 q2 q3 hz hsp
                go_wp2
                refine bodyPost_ret (v := .agg #[S [120], .string X]) (by simp [results, Tryz.results72, go_sem, r0, r1]) rfl ⟨⟨[120], X.data.toList, by rw [sx], ?_⟩, ?_⟩
                · unfold hdr
                  simp only
                  rw [unhide HN, (unhide HD).1, (unhide HD).2, unhide HV, decide_eq_true (by have h120 : ([120] : Bs).length = 1 := rfl; have := unhide HLE; have := unhide HML; omega)]
                  rfl
                · exact ((unhide B4).setCell (by show w.heap.size ≤ w.heap.size + 1; omega) _).setCell (by show w.heap.size ≤ w.heap.size + 1; omega) _

        | cons x r =>
          have hx : x ≠ 32 := fun e => unhide HH (by rw [e]; rfl)
          have hsz : 0 < (ByteArray.mk (x :: r : Bs).toArray).size := by rw [ba_size]; simp
          have hC : (ByteArray.mk (x :: r : Bs).toArray)[0]'hsz = x := rfl
          have hlen : (0 : Int) < ((x :: r : Bs).length : Nat) := by simp
          have h32 : ¬ ((x.toNat : Nat) : Int) = 32 := toNat_ne hx
          have h33 : ((x.toNat : Int) == 32) = false := by simpa using h32
          go_wp2
          go_loop [5] (fun v => ∃ X : ByteArray, v = .string X ∧ X.size ≤ 997 ∧ (∀ c ∈ X.data.toList, 32 ≤ c.toNat ∧ c.toNat ≤ 126) ∧ X.data.toList.head? ≠ some 32) (fun v => strlen v)
          case atStart => exact ⟨⟨(x :: r : Bs).toArray⟩, rfl, by rw [ba_size]; exact (unhide HQ).1, (unhide HQ).2, unhide HH⟩
          case round =>
            clear HQ HH hx hC hlen h32 h33 hsz
            obtain ⟨X, rfl, q1, q2, q3⟩ := hrel
            by_cases hsp : ∃ r, X.data.toList = r ++ [32]
            · obtain ⟨r, hr⟩ := hsp
              have hXs : X.size = r.length + 1 := by rw [size_eq, hr, List.length_append]; rfl
              have hr998 : r.length ≤ 998 := by omega
              have hXe : X = ⟨(r ++ [32]).toArray⟩ := by
                apply ByteArray.ext
                apply Array.ext'
                simpa using hr
              have hC : X[r.length]'(by rw [hXs]; omega) = 32 := by
                subst hXe
                show (r ++ [32])[r.length] = 32
                simp
              have h32 : (((32 : UInt8).toNat : Nat) : Int) = 32 := rfl
              have HX : Hid (X.extract 0 r.length = ⟨r.toArray⟩) := hide (by rw [hXe, extract_eq]; simp)
              have HQ := hide (And.intro (show r.length ≤ 997 by omega) (And.intro (fun c hc => q2 c (by rw [hr]; exact List.mem_append_left _ hc)) (show r.head? ≠ some 32 from fun e => q3 (by
                rw [hr]
                cases r with
                | nil => simp at e
                | cons x r => simpa using e))))
              clear q1 q2 q3 hr hXe
              go_wp2
              refine ⟨⟨⟨r.toArray⟩, ?_, by rw [ba_size]; exact (unhide HQ).1, (unhide HQ).2.1, (unhide HQ).2.2⟩, ?_⟩
              · rw [unhide HX]
              · rw [unhide HX]
                simp only [strlen, ba_size, hXs]
                omega
            · have HV := hide (show hvl X.data.toList = true from by
                unfold hvl
                have e1 : X.data.toList.all shn = true := List.all_eq_true.2 (fun c hc => shn_of (q2 c hc))
                have e2 : X.data.toList.getLast? ≠ some 32 := fun e => by
                  obtain ⟨r, hr⟩ := List.getLast?_eq_some_iff.1 e
                  exact hsp ⟨r, hr⟩
                rw [e1, beq_eq_false_iff_ne.2 q3, beq_eq_false_iff_ne.2 e2]
                rfl)
              have hXl : X.data.toList.length = X.size := (size_eq X).symm
              have HLE := hide (show X.data.toList.length ≤ 997 by omega)
              clear hXl
              by_cases hz : X.size = 0
              · have hXe : X = ⟨#[]⟩ := by
                  apply ByteArray.ext
                  apply Array.ext'
                  have e0 : X.data.toList.length = 0 := (size_eq X).symm.trans hz
                  exact List.eq_nil_of_length_eq_zero e0
                subst hXe
                clear q1 q2 q3 hz hsp HLE HV
                go_wp2
                refine bodyPost_ret (v := .agg #[S [120], S []]) (by simp [results, Tryz.results72, go_sem, r0, r1]) rfl ⟨⟨[120], [], rfl, ?_⟩, ?_⟩
                · unfold hdr
                  simp only
                  rw [unhide HN, (unhide HD).1, (unhide HD).2, show hvl [] = true from rfl, decide_eq_true (by first | decide | (simp; omega))]
                  rfl
                · exact ((unhide B4).setCell (by show w.heap.size ≤ w.heap.size + 1; omega) _).setCell (by show w.heap.size ≤ w.heap.size + 1; omega) _
              · obtain ⟨n, hn⟩ : ∃ n, X.size = n + 1 := ⟨X.size - 1, by omega⟩
                have hC : ¬ ((X[n]'(by omega)).toNat : Int) = 32 := fun e => by
                  have e2 : X[n]'(by omega) = 32 := UInt8.toNat_inj.1 (by show _ = 32; omega)
                  apply hsp
                  have hl : X.data.toList.length = n + 1 := (size_eq X).symm.trans hn
                  refine ⟨X.data.toList.take n, ?_⟩
                  conv => lhs; rw [← List.take_append_drop n X.data.toList]
                  congr 1
                  rw [List.drop_eq_getElem_cons (by omega), List.drop_eq_nil_of_le (by omega)]
                  have : X.data.toList[n]'(by omega) = 32 := by rw [← e2]; rfl
                  rw [this]
                generalize hcc : X[n]'(by omega) = cc at *
                have hC2 : ((cc.toNat : Int) == 32) = false := by simpa using hC
                have hn998 : n ≤ 998 := by omega
                clear q1 q2 q3 hz hsp
                go_wp2
                refine bodyPost_ret (v := .agg #[S [120], .string X]) (by simp [results, Tryz.results72, go_sem, r0, r1]) rfl ⟨⟨[120], X.data.toList, by rw [sx], ?_⟩, ?_⟩
                · unfold hdr
                  simp only
                  rw [unhide HN, (unhide HD).1, (unhide HD).2, unhide HV, decide_eq_true (by have h120 : ([120] : Bs).length = 1 := rfl; have := unhide HLE; have := unhide HML; omega)]
                  rfl
                · exact ((unhide B4).setCell (by show w.heap.size ≤ w.heap.size + 1; omega) _).setCell (by show w.heap.size ≤ w.heap.size + 1; omega) _


  have hA' : (nm.map low == [99, 111, 110, 116, 101, 110, 116, 45, 108, 101, 110, 103, 116, 104]) = false := by simpa using hA
  by_cases hB : (nm.map low == [116, 114, 97, 110, 115, 102, 101, 114, 45, 101, 110, 99, 111, 100, 105, 110, 103]) = true
  · have hnX : True := trivial
    clear HA HB HN
    have HN := hide (show hnm [120] = true by decide)
    have HD := hide (show alk [120] CL = false ∧ alk [120] TE = false from ⟨by decide, by decide⟩)
    have HML := hide (show ([120] : Bs).length ≤ 40 by decide)
    go_wp2_with fail
    skip
    refine (plain32_any v0 997 w3 (by omega) (by omega)).mono ?_
    rintro e w4 ⟨⟨l0, rfl, g4, g5⟩, b4⟩
    have R4 := hide ((b4.block _ (lt_of_row (unhide R3))).trans (unhide R3))
    have B4 := hide ((unhide B3).trans (b4.mono (unhide B3).size))
    have G4 := hide (And.intro g4 g5)
    have r0 : w4.cell? ⟨w.heap.size + 1, 0, none⟩ = some (S []) := cell_of_row w4 _ 0 _ 35 (0, 0) (unhide R4)
    have r1 : w4.cell? ⟨w.heap.size + 1, 1, none⟩ = some (S []) := cell_of_row w4 _ 1 _ 35 (0, 0) (unhide R4)
    have rz : ∀ j, w4.frozen? ⟨w.heap.size + 1, j, none⟩ = false := fun j => frozen_of_row w4 _ j _ 35 (unhide R4)
    clear b4 X3 R3 B3 g4 g5
    go_wp2
    go_loop [5] (fun v => ∃ l : Bs, v = S l ∧ l.length ≤ 997 ∧ ∀ c ∈ l, 32 ≤ c.toNat ∧ c.toNat ≤ 126) (fun v => strlen v)
    case atStart => exact ⟨l0, rfl, (unhide G4).1, (unhide G4).2⟩
    case round =>
      clear G4
      obtain ⟨l, rfl, q1, q2⟩ := hrel
      by_cases hsp : ∃ r, l = 32 :: r
      · obtain ⟨r, rfl⟩ := hsp
        have hsz : 0 < (ByteArray.mk (32 :: r : Bs).toArray).size := by rw [ba_size]; simp
        have hC : (ByteArray.mk (32 :: r : Bs).toArray)[0]'hsz = 32 := rfl
        have hlen : (0 : Int) < ((32 :: r : Bs).length : Nat) := by simp
        have h1l : (1 : Int) ≤ ((32 :: r : Bs).length : Nat) := by simp; omega
        have HX : Hid ((ByteArray.mk (32 :: r : Bs).toArray).extract 1 (32 :: r : Bs).length = ⟨r.toArray⟩) := hide (by rw [extract_eq]; simp)
        have HQ := hide (And.intro (show r.length ≤ 997 by simp at q1; omega) (fun c hc => q2 c (List.mem_cons_of_mem _ hc)))
        have h32 : (((32 : UInt8).toNat : Nat) : Int) = 32 := rfl
        clear q1 q2
        go_wp2
        refine ⟨⟨r, ?_, (unhide HQ).1, (unhide HQ).2⟩, ?_⟩
        · have e := unhide HX
          simp only [List.length_cons] at e
          first | (rw [e]) | (show Value.string _ = _; rw [e])
        · have e := unhide HX
          simp only [List.length_cons] at e
          rw [e]
          simp only [strlen, ba_size, List.length_cons]
          omega
      · have HH := hide (show l.head? ≠ some 32 from fun e => by
          cases l with
          | nil => simp at e
          | cons x r => simp at e; exact hsp ⟨r, by rw [e]⟩)
        have HQ := hide (And.intro q1 q2)
        clear q1 q2 hsp
        cases l with
        | nil =>
          go_wp2
          go_loop [5] (fun v => ∃ X : ByteArray, v = .string X ∧ X.size ≤ 997 ∧ (∀ c ∈ X.data.toList, 32 ≤ c.toNat ∧ c.toNat ≤ 126) ∧ X.data.toList.head? ≠ some 32) (fun v => strlen v)
          case atStart => exact ⟨⟨([] : Bs).toArray⟩, rfl, by rw [ba_size]; exact (unhide HQ).1, (unhide HQ).2, unhide HH⟩
          case round =>
            clear HQ HH
            obtain ⟨X, rfl, q1, q2, q3⟩ := hrel
            by_cases hsp : ∃ r, X.data.toList = r ++ [32]
            · obtain ⟨r, hr⟩ := hsp
              have hXs : X.size = r.length + 1 := by rw [size_eq, hr, List.length_append]; rfl
              have hr998 : r.length ≤ 998 := by omega
              have hXe : X = ⟨(r ++ [32]).toArray⟩ := by
                apply ByteArray.ext
                apply Array.ext'
                simpa using hr
              have hC : X[r.length]'(by rw [hXs]; omega) = 32 := by
                subst hXe
                show (r ++ [32])[r.length] = 32
                simp
              have h32 : (((32 : UInt8).toNat : Nat) : Int) = 32 := rfl
              have HX : Hid (X.extract 0 r.length = ⟨r.toArray⟩) := hide (by rw [hXe, extract_eq]; simp)
              have HQ := hide (And.intro (show r.length ≤ 997 by omega) (And.intro (fun c hc => q2 c (by rw [hr]; exact List.mem_append_left _ hc)) (show r.head? ≠ some 32 from fun e => q3 (by
                rw [hr]
                cases r with
                | nil => simp at e
                | cons x r => simpa using e))))
              clear q1 q2 q3 hr hXe
              go_wp2
              refine ⟨⟨⟨r.toArray⟩, ?_, by rw [ba_size]; exact (unhide HQ).1, (unhide HQ).2.1, (unhide HQ).2.2⟩, ?_⟩
              · rw [unhide HX]
              · rw [unhide HX]
                simp only [strlen, ba_size, hXs]
                omega
            · have HV := hide (show hvl X.data.toList = true from by
                unfold hvl
                have e1 : X.data.toList.all shn = true := List.all_eq_true.2 (fun c hc => shn_of (q2 c hc))
                have e2 : X.data.toList.getLast? ≠ some 32 := fun e => by
                  obtain ⟨r, hr⟩ := List.getLast?_eq_some_iff.1 e
                  exact hsp ⟨r, hr⟩
                rw [e1, beq_eq_false_iff_ne.2 q3, beq_eq_false_iff_ne.2 e2]
                rfl)
              have hXl : X.data.toList.length = X.size := (size_eq X).symm
              have HLE := hide (show X.data.toList.length ≤ 997 by omega)
              clear hXl
              by_cases hz : X.size = 0
              · have hXe : X = ⟨#[]⟩ := by
                  apply ByteArray.ext
                  apply Array.ext'
                  have e0 : X.data.toList.length = 0 := (size_eq X).symm.trans hz
                  exact List.eq_nil_of_length_eq_zero e0
                subst hXe
                clear q1 q2 q3 hz hsp HLE HV
                go_wp2
                refine bodyPost_ret (v := .agg #[S [120], S []]) (by simp [results, Tryz.results72, go_sem, r0, r1]) rfl ⟨⟨[120], [], rfl, ?_⟩, ?_⟩
                · unfold hdr
                  simp only
                  rw [unhide HN, (unhide HD).1, (unhide HD).2, show hvl [] = true from rfl, decide_eq_true (by first | decide | (simp; omega))]
                  rfl
                · exact ((unhide B4).setCell (by show w.heap.size ≤ w.heap.size + 1; omega) _).setCell (by show w.heap.size ≤ w.heap.size + 1; omega) _
              · obtain ⟨n, hn⟩ : ∃ n, X.size = n + 1 := ⟨X.size - 1, by omega⟩
                have hC : ¬ ((X[n]'(by omega)).toNat : Int) = 32 := fun e => by
                  have e2 : X[n]'(by omega) = 32 := UInt8.toNat_inj.1 (by show _ = 32; omega)
                  apply hsp
                  have hl : X.data.toList.length = n + 1 := (size_eq X).symm.trans hn
                  refine ⟨X.data.toList.take n, ?_⟩
                  conv => lhs; rw [← List.take_append_drop n X.data.toList]
                  congr 1
                  rw [List.drop_eq_getElem_cons (by omega), List.drop_eq_nil_of_le (by omega)]
                  have : X.data.toList[n]'(by omega) = 32 := by rw [← e2]; rfl
                  rw [this]
                generalize hcc : X[n]'(by omega) = cc at *
                have hC2 : ((cc.toNat : Int) == 32) = false := by simpa using hC
                have hn998 : n ≤ 998 := by omega
                clear q1 q2 q3 hz hsp
                go_wp2
                refine bodyPost_ret (v := .agg #[S [120], .string X]) (by simp [results, Tryz.results72, go_sem, r0, r1]) rfl ⟨⟨[120], X.data.toList, by rw [sx], ?_⟩, ?_⟩
                · unfold hdr
                  simp only
                  rw [unhide HN, (unhide HD).1, (unhide HD).2, unhide HV, decide_eq_true (by have h120 : ([120] : Bs).length = 1 := rfl; have := unhide HLE; have := unhide HML; omega)]
                  rfl
                · exact ((unhide B4).setCell (by show w.heap.size ≤ w.heap.size + 1; omega) _).setCell (by show w.heap.size ≤ w.heap.size + 1; omega) _

        | cons x r =>
          have hx : x ≠ 32 := fun e => unhide HH (by rw [e]; rfl)
          have hsz : 0 < (ByteArray.mk (x :: r : Bs).toArray).size := by rw [ba_size]; simp
          have hC : (ByteArray.mk (x :: r : Bs).toArray)[0]'hsz = x := rfl
          have hlen : (0 : Int) < ((x :: r : Bs).length : Nat) := by simp
          have h32 : ¬ ((x.toNat : Nat) : Int) = 32 := toNat_ne hx
          have h33 : ((x.toNat : Int) == 32) = false := by simpa using h32
          go_wp2
          go_loop [5] (fun v => ∃ X : ByteArray, v = .string X ∧ X.size ≤ 997 ∧ (∀ c ∈ X.data.toList, 32 ≤ c.toNat ∧ c.toNat ≤ 126) ∧ X.data.toList.head? ≠ some 32) (fun v => strlen v)
          case atStart => exact ⟨⟨(x :: r : Bs).toArray⟩, rfl, by rw [ba_size]; exact (unhide HQ).1, (unhide HQ).2, unhide HH⟩
          case round =>
            clear HQ HH hx hC hlen h32 h33 hsz
            obtain ⟨X, rfl, q1, q2, q3⟩ := hrel
            by_cases hsp : ∃ r, X.data.toList = r ++ [32]
            · obtain ⟨r, hr⟩ := hsp
              have hXs : X.size = r.length + 1 := by rw [size_eq, hr, List.length_append]; rfl
              have hr998 : r.length ≤ 998 := by omega
              have hXe : X = ⟨(r ++ [32]).toArray⟩ := by
                apply ByteArray.ext
                apply Array.ext'
                simpa using hr
              have hC : X[r.length]'(by rw [hXs]; omega) = 32 := by
                subst hXe
                show (r ++ [32])[r.length] = 32
                simp
              have h32 : (((32 : UInt8).toNat : Nat) : Int) = 32 := rfl
              have HX : Hid (X.extract 0 r.length = ⟨r.toArray⟩) := hide (by rw [hXe, extract_eq]; simp)
              have HQ := hide (And.intro (show r.length ≤ 997 by omega) (And.intro (fun c hc => q2 c (by rw [hr]; exact List.mem_append_left _ hc)) (show r.head? ≠ some 32 from fun e => q3 (by
                rw [hr]
                cases r with
                | nil => simp at e
                | cons x r => simpa using e))))
              clear q1 q2 q3 hr hXe
              go_wp2
              refine ⟨⟨⟨r.toArray⟩, ?_, by rw [ba_size]; exact (unhide HQ).1, (unhide HQ).2.1, (unhide HQ).2.2⟩, ?_⟩
              · rw [unhide HX]
              · rw [unhide HX]
                simp only [strlen, ba_size, hXs]
                omega
            · have HV := hide (show hvl X.data.toList = true from by
                unfold hvl
                have e1 : X.data.toList.all shn = true := List.all_eq_true.2 (fun c hc => shn_of (q2 c hc))
                have e2 : X.data.toList.getLast? ≠ some 32 := fun e => by
                  obtain ⟨r, hr⟩ := List.getLast?_eq_some_iff.1 e
                  exact hsp ⟨r, hr⟩
                rw [e1, beq_eq_false_iff_ne.2 q3, beq_eq_false_iff_ne.2 e2]
                rfl)
              have hXl : X.data.toList.length = X.size := (size_eq X).symm
              have HLE := hide (show X.data.toList.length ≤ 997 by omega)
              clear hXl
              by_cases hz : X.size = 0
              · have hXe : X = ⟨#[]⟩ := by
                  apply ByteArray.ext
                  apply Array.ext'
                  have e0 : X.data.toList.length = 0 := (size_eq X).symm.trans hz
                  exact List.eq_nil_of_length_eq_zero e0
                subst hXe
                clear q1 q2 q3 hz hsp HLE HV
                go_wp2
                refine bodyPost_ret (v := .agg #[S [120], S []]) (by simp [results, Tryz.results72, go_sem, r0, r1]) rfl ⟨⟨[120], [], rfl, ?_⟩, ?_⟩
                · unfold hdr
                  simp only
                  rw [unhide HN, (unhide HD).1, (unhide HD).2, show hvl [] = true from rfl, decide_eq_true (by first | decide | (simp; omega))]
                  rfl
                · exact ((unhide B4).setCell (by show w.heap.size ≤ w.heap.size + 1; omega) _).setCell (by show w.heap.size ≤ w.heap.size + 1; omega) _
              · obtain ⟨n, hn⟩ : ∃ n, X.size = n + 1 := ⟨X.size - 1, by omega⟩
                have hC : ¬ ((X[n]'(by omega)).toNat : Int) = 32 := fun e => by
                  have e2 : X[n]'(by omega) = 32 := UInt8.toNat_inj.1 (by show _ = 32; omega)
                  apply hsp
                  have hl : X.data.toList.length = n + 1 := (size_eq X).symm.trans hn
                  refine ⟨X.data.toList.take n, ?_⟩
                  conv => lhs; rw [← List.take_append_drop n X.data.toList]
                  congr 1
                  rw [List.drop_eq_getElem_cons (by omega), List.drop_eq_nil_of_le (by omega)]
                  have : X.data.toList[n]'(by omega) = 32 := by rw [← e2]; rfl
                  rw [this]
                generalize hcc : X[n]'(by omega) = cc at *
                have hC2 : ((cc.toNat : Int) == 32) = false := by simpa using hC
                have hn998 : n ≤ 998 := by omega
                clear q1 q2 q3 hz hsp
                go_wp2
                refine bodyPost_ret (v := .agg #[S [120], .string X]) (by simp [results, Tryz.results72, go_sem, r0, r1]) rfl ⟨⟨[120], X.data.toList, by rw [sx], ?_⟩, ?_⟩
                · unfold hdr
                  simp only
                  rw [unhide HN, (unhide HD).1, (unhide HD).2, unhide HV, decide_eq_true (by have h120 : ([120] : Bs).length = 1 := rfl; have := unhide HLE; have := unhide HML; omega)]
                  rfl
                · exact ((unhide B4).setCell (by show w.heap.size ≤ w.heap.size + 1; omega) _).setCell (by show w.heap.size ≤ w.heap.size + 1; omega) _


  have hB' : (nm.map low == [116, 114, 97, 110, 115, 102, 101, 114, 45, 101, 110, 99, 111, 100, 105, 110, 103]) = false := by simpa using hB
  have HD := hide (show alk nm CL = false ∧ alk nm TE = false from ⟨by rw [unhide HA]; exact hA', by rw [unhide HB]; exact hB'⟩)
  clear hA hB HA HB
  have HML := hide g2
  have HM := hide (show (998 : Int) - (nm.length : Int) = ((998 - nm.length : Nat) : Int) by omega)
  go_wp2_with fail
  rw [unhide HM]
  refine (plain32_any v0 (998 - nm.length) w3 (by omega) (by omega)).mono ?_
  rintro e w4 ⟨⟨l0, rfl, g4, g5⟩, b4⟩
  have R4 := hide ((b4.block _ (lt_of_row (unhide R3))).trans (unhide R3))
  have B4 := hide ((unhide B3).trans (b4.mono (unhide B3).size))
  have G4 := hide (And.intro g4 g5)
  have r0 : w4.cell? ⟨w.heap.size + 1, 0, none⟩ = some (S []) := cell_of_row w4 _ 0 _ 35 (0, 0) (unhide R4)
  have r1 : w4.cell? ⟨w.heap.size + 1, 1, none⟩ = some (S []) := cell_of_row w4 _ 1 _ 35 (0, 0) (unhide R4)
  have rz : ∀ j, w4.frozen? ⟨w.heap.size + 1, j, none⟩ = false := fun j => frozen_of_row w4 _ j _ 35 (unhide R4)
  clear b4 X3 R3 B3 g4 g5
  go_wp2
  go_loop [5] (fun v => ∃ l : Bs, v = S l ∧ l.length ≤ (998 - nm.length) ∧ ∀ c ∈ l, 32 ≤ c.toNat ∧ c.toNat ≤ 126) (fun v => strlen v)
  case atStart => exact ⟨l0, rfl, (unhide G4).1, (unhide G4).2⟩
  case round =>
    clear G4
    obtain ⟨l, rfl, q1, q2⟩ := hrel
    by_cases hsp : ∃ r, l = 32 :: r
    · obtain ⟨r, rfl⟩ := hsp
      have hsz : 0 < (ByteArray.mk (32 :: r : Bs).toArray).size := by rw [ba_size]; simp
      have hC : (ByteArray.mk (32 :: r : Bs).toArray)[0]'hsz = 32 := rfl
      have hlen : (0 : Int) < ((32 :: r : Bs).length : Nat) := by simp
      have h1l : (1 : Int) ≤ ((32 :: r : Bs).length : Nat) := by simp; omega
      have HX : Hid ((ByteArray.mk (32 :: r : Bs).toArray).extract 1 (32 :: r : Bs).length = ⟨r.toArray⟩) := hide (by rw [extract_eq]; simp)
      have HQ := hide (And.intro (show r.length ≤ (998 - nm.length) by simp at q1; omega) (fun c hc => q2 c (List.mem_cons_of_mem _ hc)))
      have h32 : (((32 : UInt8).toNat : Nat) : Int) = 32 := rfl
      clear q1 q2
      go_wp2
      refine ⟨⟨r, ?_, (unhide HQ).1, (unhide HQ).2⟩, ?_⟩
      · have e := unhide HX
        simp only [List.length_cons] at e
        first | (rw [e]) | (show Value.string _ = _; rw [e])
      · have e := unhide HX
        simp only [List.length_cons] at e
        rw [e]
        simp only [strlen, ba_size, List.length_cons]
        omega
    · have HH := hide (show l.head? ≠ some 32 from fun e => by
        cases l with
        | nil => simp at e
        | cons x r => simp at e; exact hsp ⟨r, by rw [e]⟩)
      have HQ := hide (And.intro q1 q2)
      clear q1 q2 hsp
      cases l with
      | nil =>
        go_wp2
        go_loop [5] (fun v => ∃ X : ByteArray, v = .string X ∧ X.size ≤ (998 - nm.length) ∧ (∀ c ∈ X.data.toList, 32 ≤ c.toNat ∧ c.toNat ≤ 126) ∧ X.data.toList.head? ≠ some 32) (fun v => strlen v)
        case atStart => exact ⟨⟨([] : Bs).toArray⟩, rfl, by rw [ba_size]; exact (unhide HQ).1, (unhide HQ).2, unhide HH⟩
        case round =>
          clear HQ HH
          obtain ⟨X, rfl, q1, q2, q3⟩ := hrel
          by_cases hsp : ∃ r, X.data.toList = r ++ [32]
          · obtain ⟨r, hr⟩ := hsp
            have hXs : X.size = r.length + 1 := by rw [size_eq, hr, List.length_append]; rfl
            have hr998 : r.length ≤ 998 := by omega
            have hXe : X = ⟨(r ++ [32]).toArray⟩ := by
              apply ByteArray.ext
              apply Array.ext'
              simpa using hr
            have hC : X[r.length]'(by rw [hXs]; omega) = 32 := by
              subst hXe
              show (r ++ [32])[r.length] = 32
              simp
            have h32 : (((32 : UInt8).toNat : Nat) : Int) = 32 := rfl
            have HX : Hid (X.extract 0 r.length = ⟨r.toArray⟩) := hide (by rw [hXe, extract_eq]; simp)
            have HQ := hide (And.intro (show r.length ≤ (998 - nm.length) by omega) (And.intro (fun c hc => q2 c (by rw [hr]; exact List.mem_append_left _ hc)) (show r.head? ≠ some 32 from fun e => q3 (by
              rw [hr]
              cases r with
              | nil => simp at e
              | cons x r => simpa using e))))
            clear q1 q2 q3 hr hXe
            go_wp2
            refine ⟨⟨⟨r.toArray⟩, ?_, by rw [ba_size]; exact (unhide HQ).1, (unhide HQ).2.1, (unhide HQ).2.2⟩, ?_⟩
            · rw [unhide HX]
            · rw [unhide HX]
              simp only [strlen, ba_size, hXs]
              omega
          · have HV := hide (show hvl X.data.toList = true from by
              unfold hvl
              have e1 : X.data.toList.all shn = true := List.all_eq_true.2 (fun c hc => shn_of (q2 c hc))
              have e2 : X.data.toList.getLast? ≠ some 32 := fun e => by
                obtain ⟨r, hr⟩ := List.getLast?_eq_some_iff.1 e
                exact hsp ⟨r, hr⟩
              rw [e1, beq_eq_false_iff_ne.2 q3, beq_eq_false_iff_ne.2 e2]
              rfl)
            have hXl : X.data.toList.length = X.size := (size_eq X).symm
            have HLE := hide (show X.data.toList.length ≤ (998 - nm.length) by omega)
            clear hXl
            by_cases hz : X.size = 0
            · have hXe : X = ⟨#[]⟩ := by
                apply ByteArray.ext
                apply Array.ext'
                have e0 : X.data.toList.length = 0 := (size_eq X).symm.trans hz
                exact List.eq_nil_of_length_eq_zero e0
              subst hXe
              clear q1 q2 q3 hz hsp HLE HV
              go_wp2
              refine bodyPost_ret (v := .agg #[S nm, S []]) (by simp [results, Tryz.results72, go_sem, r0, r1]) rfl ⟨⟨nm, [], rfl, ?_⟩, ?_⟩
              · unfold hdr
                simp only
                rw [unhide HN, (unhide HD).1, (unhide HD).2, show hvl [] = true from rfl, decide_eq_true (by first | decide | (simp; omega))]
                rfl
              · exact ((unhide B4).setCell (by show w.heap.size ≤ w.heap.size + 1; omega) _).setCell (by show w.heap.size ≤ w.heap.size + 1; omega) _
            · obtain ⟨n, hn⟩ : ∃ n, X.size = n + 1 := ⟨X.size - 1, by omega⟩
              have hC : ¬ ((X[n]'(by omega)).toNat : Int) = 32 := fun e => by
                have e2 : X[n]'(by omega) = 32 := UInt8.toNat_inj.1 (by show _ = 32; omega)
                apply hsp
                have hl : X.data.toList.length = n + 1 := (size_eq X).symm.trans hn
                refine ⟨X.data.toList.take n, ?_⟩
                conv => lhs; rw [← List.take_append_drop n X.data.toList]
                congr 1
                rw [List.drop_eq_getElem_cons (by omega), List.drop_eq_nil_of_le (by omega)]
                have : X.data.toList[n]'(by omega) = 32 := by rw [← e2]; rfl
                rw [this]
              generalize hcc : X[n]'(by omega) = cc at *
              have hC2 : ((cc.toNat : Int) == 32) = false := by simpa using hC
              have hn998 : n ≤ 998 := by omega
              clear q1 q2 q3 hz hsp
              go_wp2
              refine bodyPost_ret (v := .agg #[S nm, .string X]) (by simp [results, Tryz.results72, go_sem, r0, r1]) rfl ⟨⟨nm, X.data.toList, by rw [sx], ?_⟩, ?_⟩
              · unfold hdr
                simp only
                rw [unhide HN, (unhide HD).1, (unhide HD).2, unhide HV, decide_eq_true (by have h120 : ([120] : Bs).length = 1 := rfl; have := unhide HLE; have := unhide HML; omega)]
                rfl
              · exact ((unhide B4).setCell (by show w.heap.size ≤ w.heap.size + 1; omega) _).setCell (by show w.heap.size ≤ w.heap.size + 1; omega) _

      | cons x r =>
        have hx : x ≠ 32 := fun e => unhide HH (by rw [e]; rfl)
        have hsz : 0 < (ByteArray.mk (x :: r : Bs).toArray).size := by rw [ba_size]; simp
        have hC : (ByteArray.mk (x :: r : Bs).toArray)[0]'hsz = x := rfl
        have hlen : (0 : Int) < ((x :: r : Bs).length : Nat) := by simp
        have h32 : ¬ ((x.toNat : Nat) : Int) = 32 := toNat_ne hx
        have h33 : ((x.toNat : Int) == 32) = false := by simpa using h32
        go_wp2
        go_loop [5] (fun v => ∃ X : ByteArray, v = .string X ∧ X.size ≤ (998 - nm.length) ∧ (∀ c ∈ X.data.toList, 32 ≤ c.toNat ∧ c.toNat ≤ 126) ∧ X.data.toList.head? ≠ some 32) (fun v => strlen v)
        case atStart => exact ⟨⟨(x :: r : Bs).toArray⟩, rfl, by rw [ba_size]; exact (unhide HQ).1, (unhide HQ).2, unhide HH⟩
        case round =>
          clear HQ HH hx hC hlen h32 h33 hsz
          obtain ⟨X, rfl, q1, q2, q3⟩ := hrel
          by_cases hsp : ∃ r, X.data.toList = r ++ [32]
          · obtain ⟨r, hr⟩ := hsp
            have hXs : X.size = r.length + 1 := by rw [size_eq, hr, List.length_append]; rfl
            have hr998 : r.length ≤ 998 := by omega
            have hXe : X = ⟨(r ++ [32]).toArray⟩ := by
              apply ByteArray.ext
              apply Array.ext'
              simpa using hr
            have hC : X[r.length]'(by rw [hXs]; omega) = 32 := by
              subst hXe
              show (r ++ [32])[r.length] = 32
              simp
            have h32 : (((32 : UInt8).toNat : Nat) : Int) = 32 := rfl
            have HX : Hid (X.extract 0 r.length = ⟨r.toArray⟩) := hide (by rw [hXe, extract_eq]; simp)
            have HQ := hide (And.intro (show r.length ≤ (998 - nm.length) by omega) (And.intro (fun c hc => q2 c (by rw [hr]; exact List.mem_append_left _ hc)) (show r.head? ≠ some 32 from fun e => q3 (by
              rw [hr]
              cases r with
              | nil => simp at e
              | cons x r => simpa using e))))
            clear q1 q2 q3 hr hXe
            go_wp2
            refine ⟨⟨⟨r.toArray⟩, ?_, by rw [ba_size]; exact (unhide HQ).1, (unhide HQ).2.1, (unhide HQ).2.2⟩, ?_⟩
            · rw [unhide HX]
            · rw [unhide HX]
              simp only [strlen, ba_size, hXs]
              omega
          · have HV := hide (show hvl X.data.toList = true from by
              unfold hvl
              have e1 : X.data.toList.all shn = true := List.all_eq_true.2 (fun c hc => shn_of (q2 c hc))
              have e2 : X.data.toList.getLast? ≠ some 32 := fun e => by
                obtain ⟨r, hr⟩ := List.getLast?_eq_some_iff.1 e
                exact hsp ⟨r, hr⟩
              rw [e1, beq_eq_false_iff_ne.2 q3, beq_eq_false_iff_ne.2 e2]
              rfl)
            have hXl : X.data.toList.length = X.size := (size_eq X).symm
            have HLE := hide (show X.data.toList.length ≤ (998 - nm.length) by omega)
            clear hXl
            by_cases hz : X.size = 0
            · have hXe : X = ⟨#[]⟩ := by
                apply ByteArray.ext
                apply Array.ext'
                have e0 : X.data.toList.length = 0 := (size_eq X).symm.trans hz
                exact List.eq_nil_of_length_eq_zero e0
              subst hXe
              clear q1 q2 q3 hz hsp HLE HV
              go_wp2
              refine bodyPost_ret (v := .agg #[S nm, S []]) (by simp [results, Tryz.results72, go_sem, r0, r1]) rfl ⟨⟨nm, [], rfl, ?_⟩, ?_⟩
              · unfold hdr
                simp only
                rw [unhide HN, (unhide HD).1, (unhide HD).2, show hvl [] = true from rfl, decide_eq_true (by first | decide | (simp; omega))]
                rfl
              · exact ((unhide B4).setCell (by show w.heap.size ≤ w.heap.size + 1; omega) _).setCell (by show w.heap.size ≤ w.heap.size + 1; omega) _
            · obtain ⟨n, hn⟩ : ∃ n, X.size = n + 1 := ⟨X.size - 1, by omega⟩
              have hC : ¬ ((X[n]'(by omega)).toNat : Int) = 32 := fun e => by
                have e2 : X[n]'(by omega) = 32 := UInt8.toNat_inj.1 (by show _ = 32; omega)
                apply hsp
                have hl : X.data.toList.length = n + 1 := (size_eq X).symm.trans hn
                refine ⟨X.data.toList.take n, ?_⟩
                conv => lhs; rw [← List.take_append_drop n X.data.toList]
                congr 1
                rw [List.drop_eq_getElem_cons (by omega), List.drop_eq_nil_of_le (by omega)]
                have : X.data.toList[n]'(by omega) = 32 := by rw [← e2]; rfl
                rw [this]
              generalize hcc : X[n]'(by omega) = cc at *
              have hC2 : ((cc.toNat : Int) == 32) = false := by simpa using hC
              have hn998 : n ≤ 998 := by omega
              clear q1 q2 q3 hz hsp
              go_wp2
              refine bodyPost_ret (v := .agg #[S nm, .string X]) (by simp [results, Tryz.results72, go_sem, r0, r1]) rfl ⟨⟨nm, X.data.toList, by rw [sx], ?_⟩, ?_⟩
              · unfold hdr
                simp only
                rw [unhide HN, (unhide HD).1, (unhide HD).2, unhide HV, decide_eq_true (by have h120 : ([120] : Bs).length = 1 := rfl; have := unhide HLE; have := unhide HML; omega)]
                rfl
              · exact ((unhide B4).setCell (by show w.heap.size ≤ w.heap.size + 1; omega) _).setCell (by show w.heap.size ≤ w.heap.size + 1; omega) _

end Go.Proofs.YthlacailhfhjnaaGreatDoor

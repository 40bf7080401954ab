/- AuditNew. -/
import Derived.Test.YtelbioooggnbiaaAuZ
import Derived.Test.YtelbioooggnbiaaRowI
set_option linter.unusedVariables false
set_option linter.unusedSimpArgs false
namespace Go.Proofs.Ytelbioooggnbiaa
open Go.RowKit Go.Maps Go.Shelf Go.Deep

theorem MemPost_fresh {w : World} {N gs r : Nat} {w1 : World} (hS : Sh w1 w.heap.size gs r (List.replicate N Pg.zero)) : True := trivial
set_option maxRecDepth 100000 in
set_option maxHeartbeats 16000000 in
theorem walk_AuditNew (pgs : Int) (v : Value) (q : Slq) (w : World) (hp1 : -9223372036854775808 ≤ pgs) (hp2 : pgs ≤ 9223372036854775807) (hq : v = .slice q.a q.len q.cap ∧ q.len ≤ q.cap ∧ q.cap ≤ maxLen ∧ ∃ f : Nat → Int, Row w w.heap.size .i64 v q.len f ∧ ∀ i, i < q.len → -9223372036854775808 ≤ f i ∧ f i ≤ 9223372036854775807) :
    Calls Try.prog 3 #[.int .i64 pgs, v] w fun e w' => e = .returned (.bool true) ∧ Below w.heap.size w w' := by
  obtain ⟨rfl, hle, hmx, f, hrow, hfb⟩ := hq
  have ROW := Lib.hid hrow; have FB := Lib.hid hfb
  obtain ⟨len, hlen⟩ : ∃ len, len = q.len := ⟨_, rfl⟩
  obtain ⟨qa, hqa⟩ : ∃ qa, qa = q.a := ⟨_, rfl⟩
  obtain ⟨qc, hqc⟩ : ∃ qc, qc = q.cap := ⟨_, rfl⟩
  rw [← hlen, ← hqa, ← hqc] at ROW
  rw [← hlen] at FB
  have LM := Lib.hid (show len ≤ 9223372036854775807 by simp only [maxLen] at hmx; omega)
  rw [← hlen, ← hqa, ← hqc]
  clear hrow hfb hle hmx hlen hqa hqc
  have CA := Lib.hid (awake22 w)
  go_enter Try.func3, Try.ntmps3
  go_wp2_with fail
  refine CA.out.mono ?_
  rintro e w1 ⟨rfl, hb⟩
  have B1 := Lib.hid hb
  clear hb CA
  have CM := memory_good 1024 w1 (by omega) (by omega)
  rw [show ((1024 : Nat) : Int) = 1024 from rfl] at CM
  have CM := Lib.hid CM
  as_aux_lemma =>
    go_wp2_with fail
    refine CM.out.mono ?_
    rintro e w2 ⟨gs, r, rfl, hS, hb⟩
    have S2 := Lib.hid (show Sh w2 w.heap.size gs r (List.replicate 1024 Pg.zero) from ⟨hS.box, hS.row, hS.one, hS.most, Nat.le_trans B1.out.size hS.bg, Nat.le_trans B1.out.size hS.br⟩)
    have B2 := Lib.hid (below_then B1.out hb B1.out.size)
    clear hS hb CM B1
    have ZV := Lib.hid (fun (wx : World) (g b : Nat) (hs : SS wx w.heap.size g b 0 gs r (List.replicate 1024 Pg.zero) []) => show SV wx w.heap.size g b gs r 1024 0 (fun _ => Pg.zero) (fun _ => Pg.zero) from by
        have := sv_made (und := fun _ => Pg.zero) hs (fun id hid => by
          rw [List.length_replicate] at hid
          rw [List.getD_eq_getElem?_getD, List.getElem?_replicate, if_pos hid]
          show pgB Pg.zero Pg.zero = true
          exact pgB_self _)
        rw [List.length_replicate] at this
        exact this)
    have CN := Lib.hid (ss_new S2.out B2.out.size)
    as_aux_lemma =>
      go_wp2_with fail
      refine CN.out.mono ?_
      rintro e w3 ⟨g0, b0, rfl, hs, hb, hg1, hb1⟩
      have V3 := Lib.hid (ZV.out w3 g0 b0 hs)
      have S3 := Lib.hid (S2.out.kept hb)
      have B3 := Lib.hid (below_then B2.out hb B2.out.size)
      clear hs hb hg1 hb1 CN S2 B2
      have CE := Lib.hid (check_err (dir_bad V3.out (by decide)) (by decide) (by decide) ⟨_, rfl⟩)
      as_aux_lemma =>
        go_wp2_with fail
        refine CE.out.mono ?_
        rintro e w4 ⟨rfl, hb⟩
        have S4 := Lib.hid (S3.out.kept hb)
        have B4 := Lib.hid (below_then B3.out hb B3.out.size)
        clear hb CE V3 S3 B3
        have CN := Lib.hid (ss_new S4.out B4.out.size)
        as_aux_lemma =>
          go_wp2_with fail
          refine CN.out.mono ?_
          rintro e w5 ⟨g, b, rfl, hs, hb, hg1, hb1⟩
          have V5 := Lib.hid (ZV.out w5 g b hs)
          have B5 := Lib.hid (below_then B4.out hb B4.out.size)
          clear hs hb hg1 hb1 CN S4 B4 ZV
          by_cases hbad : pgs < 4 ∨ 1024 < pgs
          · have CF := Lib.hid (format_bad (g := g) pgs w5 hbad)
            as_aux_lemma =>
              go_wp2_with fail
              refine CF.out.mono ?_
              rintro e w6 ⟨rfl, rfl⟩
              clear CF
              go_wp2
              go_ret
              exact ⟨rfl, B5.out⟩
          · obtain ⟨n, rfl⟩ : ∃ n : Nat, pgs = n := ⟨pgs.toNat, by omega⟩
            have N1 := Lib.hid (show 4 ≤ n by omega); have N2 := Lib.hid (show n ≤ 1024 by omega)
            clear hbad hp1 hp2
            have CF := Lib.hid (format_good V5.out (by omega) n N1.out N2.out (by decide))
            as_aux_lemma =>
              go_wp2_with fail
              refine CF.out.mono ?_
              rintro e w6 ⟨rfl, hs, hg⟩
              have F1 := Lib.hid (v1_flat n 1024 N1.out N2.out)
              have A6 := Lib.hid (show AuM w w6 g b gs r 1024 n 0 from ⟨⟨_, _, _, hs, _, _, _, _, by unfold landed; rw [if_pos rfl]; exact F1.out.1, F1.out.2⟩, N2.out, V5.out.touch B5.out rfl hg (.inl rfl)⟩)
              clear hs hg CF V5 B5 F1
              have CL := Lib.hid (au_land A6.out)
              as_aux_lemma =>
                go_wp2_with fail
                refine CL.out.mono ?_
                rintro e w7 ⟨rfl, hA⟩
                have A7 := Lib.hid hA
                clear hA CL A6
                have CK := Lib.hid (au_check A7.out)
                as_aux_lemma =>
                  go_wp2_with fail
                  refine CK.out.mono ?_
                  rintro e w8 ⟨rfl, hb⟩
                  have A8 := Lib.hid (A7.out.kept hb)
                  clear hb CK A7
                  as_aux_lemma =>
                    go_wp2_with fail
                    go_loopw [45] (fun s45 wr => ∃ j : Nat, s45 = .int .i64 (j : Int) ∧ j ≤ len ∧ j ≤ 20 ∧ Hid (∃ m, m ≤ 2 ∧ Au w wr g b gs r 1024 n m True)) (fun s45 _ => len - (intOf s45).toNat)
                    case atStart => exact ⟨0, rfl, Nat.zero_le _, Nat.zero_le _, Lib.hid ⟨0, Nat.zero_le _, A8.out⟩⟩
                    case round =>
                      clear A8
                      obtain ⟨j, rfl, hjn, hj20, hI⟩ := hrel
                      obtain ⟨m, hm, hA⟩ := hI.out
                      have M2 := Lib.hid hm
                      have A9 := Lib.hid hA
                      clear hI hm hA
                      by_cases hlt : j < len
                      · have HLT := Lib.hid hlt
                        have RW := Lib.hid (ROW.out.below A9.out.kp (Nat.le_refl _))
                        obtain ⟨a', c', e', h0', hr'⟩ := RW.out
                        obtain ⟨rfl, rfl⟩ : qa = a' ∧ qc = c' := by
                          injection e' with e1 e2 e3
                          exact ⟨e1, e3⟩
                        obtain ⟨bh, fh, rfl, -, hcell⟩ := hr' (by omega)
                        have cj : wr.cell? ⟨bh, fh + j, none⟩ = some (.int .i64 (f j)) := hcell j hlt
                        obtain ⟨k, hk⟩ : ∃ k, k = f j := ⟨_, rfl⟩
                        rw [← hk] at cj
                        have l63 := LM.out
                        clear e' h0' hr' hcell hk RW
                        by_cases h20 : j = 20
                        · subst h20
                          go_wp2
                          go_ret
                          exact ⟨rfl, A9.out.kp⟩
                        · have h20' : ((j : Int) == 20) = false := beq_eq_false_iff_ne.2 (by omega)
                          have h20n : ¬ ((j : Int) = 20) := by omega
                          have J20 := Lib.hid (show j + 1 ≤ 20 by omega)
                          have CM := Lib.hid (au_make trivial A9.out k)
                          clear h20 hj20
                          as_aux_lemma =>
                            go_wp2_with fail
                            refine CM.out.mono ?_
                            rintro e wa ⟨a, er, rfl, hA⟩
                            have Aa := Lib.hid hA
                            clear CM hA A9 cj
                            have CL := Lib.hid (au_land Aa.out)
                            as_aux_lemma =>
                              go_wp2_with fail
                              refine CL.out.mono ?_
                              rintro e wb ⟨rfl, hA⟩
                              have Ab := Lib.hid hA
                              clear CL hA Aa
                              have CK := Lib.hid (au_check Ab.out)
                              as_aux_lemma =>
                                go_wp2_with fail
                                refine CK.out.mono ?_
                                rintro e wc ⟨rfl, hb⟩
                                have Ac := Lib.hid (Ab.out.kept hb)
                                clear CK hb Ab
                                have CT := Lib.hid (au_take Ac.out)
                                as_aux_lemma =>
                                  go_wp2_with fail
                                  refine CT.out.mono ?_
                                  rintro e wd (⟨rfl, hA⟩ | ⟨id, rfl, hA⟩)
                                  · have Ad := Lib.hid hA
                                    clear CT hA Ac
                                    have CD := Lib.hid (au_drop Ad.out)
                                    as_aux_lemma =>
                                      go_wp2_with fail
                                      refine CD.out.mono ?_
                                      rintro e we ⟨rfl, hb⟩
                                      have BE := Lib.hid hb
                                      clear CD hb Ad
                                      go_wp2
                                      go_ret
                                      exact ⟨rfl, BE.out⟩
                                  · have Td := Lib.hid hA
                                    clear CT hA Ac
                                    have CK := Lib.hid (aut_check Td.out)
                                    as_aux_lemma =>
                                      go_wp2_with fail
                                      refine CK.out.mono ?_
                                      rintro e we ⟨rfl, hb⟩
                                      have Te := Lib.hid (Td.out.kept hb)
                                      clear CK hb Td
                                      have CG := Lib.hid (aut_give Te.out)
                                      as_aux_lemma =>
                                        go_wp2_with fail
                                        refine CG.out.mono ?_
                                        rintro e wf ⟨rfl, hA⟩
                                        have Af := Lib.hid (hA (by omega))
                                        clear CG hA Te
                                        have CK := Lib.hid (au_check Af.out)
                                        as_aux_lemma =>
                                          go_wp2_with fail
                                          refine CK.out.mono ?_
                                          rintro e wg ⟨rfl, hb⟩
                                          have Ag := Lib.hid (Af.out.kept hb)
                                          clear CK hb Af
                                          go_wp2
                                          go_roundw
                                          case rel => exact ⟨j + 1, by go_num, by have := HLT.out; omega, J20.out, Lib.hid ⟨_, by omega, Ag.out⟩⟩
                                          case measure => have := HLT.out; simp [intOf]; omega
                      · obtain rfl : len = j := by omega
                        clear hlt hjn
                        go_wp2
                        go_ret
                        exact ⟨rfl, A9.out.kp⟩
end Go.Proofs.Ytelbioooggnbiaa

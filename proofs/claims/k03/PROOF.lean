import PyProof.Rows.All
import Wide.All
import OpenK.AllK
import Wide.FinOn
import HandS.Base
import HandS.Call
import HandS.List
import HandS.Comp
import HandS.Ends
import HandS.Words
import HandS.WordsList
import HandS.Codes
import HandS.Wide
import HandS.Iter
import HandS.Zip
import HandS.Star
import HandS.More
import HandS.IsInst
import HandS.Conv
import HandS.NoneIn
import PySem.Challenge.RW_tiespan_k03_least_and_greatest
set_option Elab.async false
set_option linter.all false
set_option maxRecDepth 100000
set_option maxHeartbeats 4000000
namespace T3
open PySem PySem.Spec PyProof.Rows L2
def topS (i : Nat) : Stmt := PySem.Challenge.pw_tiespan_k03_least_and_greatest.main.body.getD i (.Pass ⟨0, 0, 0, 0⟩)
abbrev s_p_is_less : Stmt := topS 1
abbrev s_p_least : Stmt := topS 2
abbrev s_p_greatest : Stmt := topS 3
abbrev s_feed : Stmt := topS 5
abbrev s_draw : Stmt := topS 6
abbrev s_any : Stmt := topS 7
abbrev s_same : Stmt := topS 8
abbrev s_gcd : Stmt := topS 9
abbrev s_low : Stmt := topS 10
abbrev s_under : Stmt := topS 11
abbrev s_lesser : Stmt := topS 12
abbrev s_bigger : Stmt := topS 13
abbrev s_part : Stmt := topS 14
abbrev s_best : Stmt := topS 15
abbrev s_p_law : Stmt := topS 16
theorem sc_p_is_less : FnScope ["one", "other"] ["one", "other"] (defScope s_p_is_less) := ⟨rfl, rfl, rfl, by decide +kernel, rfl, by decide +kernel, by decide +kernel⟩
theorem sc_p_least : FnScope ["values", "found", "value"] ["values"] (defScope s_p_least) := ⟨rfl, rfl, rfl, by decide +kernel, rfl, by decide +kernel, by decide +kernel⟩
theorem sc_p_greatest : FnScope ["values", "found", "value"] ["values"] (defScope s_p_greatest) := ⟨rfl, rfl, rfl, by decide +kernel, rfl, by decide +kernel, by decide +kernel⟩
theorem sc_feed : FnScope ["_law_script", "_law_cell", "_law_cells", "_law_mark"] ["_law_script"] (defScope s_feed) := ⟨rfl, rfl, rfl, by decide +kernel, rfl, by decide +kernel, by decide +kernel⟩
theorem sc_draw : FnScope ["_law_feed_here", "_law_many", "_law_cell", "_law_one", "_law_two", "_law_drawn"] ["_law_feed_here", "_law_many"] (defScope s_draw) := ⟨rfl, rfl, rfl, by decide +kernel, rfl, by decide +kernel, by decide +kernel⟩
theorem sc_any : FnScope ["_law_feed_here", "_law_row"] ["_law_feed_here", "_law_row"] (defScope s_any) := ⟨rfl, rfl, rfl, by decide +kernel, rfl, by decide +kernel, by decide +kernel⟩
theorem sc_same : FnScope ["_law_found", "_law_due", "_law_key", "_law_one", "_law_two"] ["_law_found", "_law_due"] (defScope s_same) := ⟨rfl, rfl, rfl, by decide +kernel, rfl, by decide +kernel, by decide +kernel⟩
theorem sc_gcd : FnScope ["_law_one", "_law_two"] ["_law_one", "_law_two"] (defScope s_gcd) := ⟨rfl, rfl, rfl, by decide +kernel, rfl, by decide +kernel, by decide +kernel⟩
theorem sc_low : FnScope ["_law_upper", "_law_lower", "_law_part_here"] ["_law_upper", "_law_lower"] (defScope s_low) := ⟨rfl, rfl, rfl, by decide +kernel, rfl, by decide +kernel, by decide +kernel⟩
theorem sc_under : FnScope ["_law_one", "_law_two"] ["_law_one", "_law_two"] (defScope s_under) := ⟨rfl, rfl, rfl, by decide +kernel, rfl, by decide +kernel, by decide +kernel⟩
theorem sc_lesser : FnScope ["_law_one", "_law_two"] ["_law_one", "_law_two"] (defScope s_lesser) := ⟨rfl, rfl, rfl, by decide +kernel, rfl, by decide +kernel, by decide +kernel⟩
theorem sc_bigger : FnScope ["_law_one", "_law_two"] ["_law_one", "_law_two"] (defScope s_bigger) := ⟨rfl, rfl, rfl, by decide +kernel, rfl, by decide +kernel, by decide +kernel⟩
theorem sc_part : FnScope ["_law_feed_here", "_law_size", "_law_upper"] ["_law_feed_here", "_law_size"] (defScope s_part) := ⟨rfl, rfl, rfl, by decide +kernel, rfl, by decide +kernel, by decide +kernel⟩
theorem sc_best : FnScope ["_law_values", "_law_is_top", "_law_found", "_law_value"] ["_law_values", "_law_is_top"] (defScope s_best) := ⟨rfl, rfl, rfl, by decide +kernel, rfl, by decide +kernel, by decide +kernel⟩
theorem sc_p_law : FnScope ["_law_script", "_law_feed_here", "_law_turn", "_law_some", "_law_a", "_law_b", "_law_c", "_law_d", "_law_told", "_law_due", "_law_k"] ["_law_script"] (defScope s_p_law) := ⟨rfl, rfl, rfl, by decide +kernel, rfl, by decide +kernel, by decide +kernel⟩
structure Txt (K : PySem.W.Frag) (mg : Str → Option Value) (fa : Nat → Addr) (fd : Nat → FuncData) : Prop where
  F_p_is_less : Fun K "is_less" "is_less" s_p_is_less (fa 1) (fd 1)
  g_p_is_less : mg "is_less" = some (.ref (fa 1))
  b_p_is_less : Binds K (fd 1) ["one", "other"] []
  F_p_least : Fun K "least" "least" s_p_least (fa 2) (fd 2)
  g_p_least : mg "least" = some (.ref (fa 2))
  F_p_greatest : Fun K "greatest" "greatest" s_p_greatest (fa 3) (fd 3)
  g_p_greatest : mg "greatest" = some (.ref (fa 3))
  F_feed : Fun K "_law_feed" "_law_feed" s_feed (fa 5) (fd 5)
  g_feed : mg "_law_feed" = some (.ref (fa 5))
  b_feed : Binds K (fd 5) ["_law_script"] []
  F_draw : Fun K "_law_draw" "_law_draw" s_draw (fa 6) (fd 6)
  g_draw : mg "_law_draw" = some (.ref (fa 6))
  b_draw : Binds K (fd 6) ["_law_feed_here", "_law_many"] []
  F_any : Fun K "_law_any" "_law_any" s_any (fa 7) (fd 7)
  g_any : mg "_law_any" = some (.ref (fa 7))
  b_any : Binds K (fd 7) ["_law_feed_here", "_law_row"] []
  F_same : Fun K "_law_same" "_law_same" s_same (fa 8) (fd 8)
  g_same : mg "_law_same" = some (.ref (fa 8))
  b_same : Binds K (fd 8) ["_law_found", "_law_due"] []
  F_gcd : Fun K "_law_gcd" "_law_gcd" s_gcd (fa 9) (fd 9)
  g_gcd : mg "_law_gcd" = some (.ref (fa 9))
  b_gcd : Binds K (fd 9) ["_law_one", "_law_two"] []
  F_low : Fun K "_law_low" "_law_low" s_low (fa 10) (fd 10)
  g_low : mg "_law_low" = some (.ref (fa 10))
  b_low : Binds K (fd 10) ["_law_upper", "_law_lower"] []
  F_under : Fun K "_law_under" "_law_under" s_under (fa 11) (fd 11)
  g_under : mg "_law_under" = some (.ref (fa 11))
  b_under : Binds K (fd 11) ["_law_one", "_law_two"] []
  F_lesser : Fun K "_law_lesser" "_law_lesser" s_lesser (fa 12) (fd 12)
  g_lesser : mg "_law_lesser" = some (.ref (fa 12))
  b_lesser : Binds K (fd 12) ["_law_one", "_law_two"] []
  F_bigger : Fun K "_law_bigger" "_law_bigger" s_bigger (fa 13) (fd 13)
  g_bigger : mg "_law_bigger" = some (.ref (fa 13))
  b_bigger : Binds K (fd 13) ["_law_one", "_law_two"] []
  F_part : Fun K "_law_part" "_law_part" s_part (fa 14) (fd 14)
  g_part : mg "_law_part" = some (.ref (fa 14))
  b_part : Binds K (fd 14) ["_law_feed_here", "_law_size"] []
  F_best : Fun K "_law_best" "_law_best" s_best (fa 15) (fd 15)
  g_best : mg "_law_best" = some (.ref (fa 15))
  b_best : Binds K (fd 15) ["_law_values", "_law_is_top"] []
  F_p_law : Fun K "law" "law" s_p_law (fa 16) (fd 16)
  g_p_law : mg "law" = some (.ref (fa 16))
  b_p_law : Binds K (fd 16) ["_law_script"] []
  m_int : mg "int" = none
  m_len : mg "len" = none
  m_abs : mg "abs" = none
  m_range : mg "range" = none
  m_zip : mg "zip" = none
  m_all : mg "all" = none
  m_isinstance : mg "isinstance" = none
  m_bool : mg "bool" = none
  m_str : mg "str" = none
  m_tuple : mg "tuple" = none
  m_list : mg "list" = none
  m_dict : mg "dict" = none
/-! ### the law's own words: drawing -/
def FeedOk (H : Hp) (a c : Addr) : Prop := ∃ (ns : List Int) (k big mark : Int), H a = some (.lst [.ref c, .int k, .int big, .int mark]) ∧ H c = some (.lst (ns.map V.int)) ∧ c ≠ a ∧ ns.length ≤ 63 ∧ 0 ≤ k
def But (a : Addr) (H H' : Hp) : Prop := ∀ b o, b ≠ a → H b = some o → H' b = some o
theorem But.refl (a : Addr) (H : Hp) : But a H H := fun _ _ _ h => h
theorem But.trans {a : Addr} {H H1 H2 : Hp} (p : But a H H1) (q : But a H1 H2) : But a H H2 := fun b o n h => q b o n (p b o n h)
theorem But.upd {a : Addr} {H : Hp} {o : HO} : But a H (upd H a o) := fun b _ n h => by rw [upd_ne n]; exact h
theorem But.of {a : Addr} {H H' : Hp} (s : Same H H') : But a H H' := fun b o _ h => s b o h
theorem same_upd {H : Hp} {p : Addr} {o : HO} (h : H p = none) : Same H (upd H p o) := fun b x e => by
  rw [upd_ne (ne_of_none e h)]
  exact e
theorem FeedOk.new {H : Hp} {a c p : Addr} {o : HO} (h : FeedOk H a c) (n : H p = none) : FeedOk (upd H p o) a c := by
  obtain ⟨ns, k, big, mark, h1, h2, h3⟩ := h
  exact ⟨ns, k, big, mark, same_upd n _ _ h1, same_upd n _ _ h2, h3⟩
theorem FeedOk.same {H H' : Hp} {a c : Addr} (h : FeedOk H a c) (s : Same H H') : FeedOk H' a c := by
  obtain ⟨ns, k, big, mark, h1, h2, h3⟩ := h
  exact ⟨ns, k, big, mark, s _ _ h1, s _ _ h2, h3⟩
def Mid (m : Int) : Prop := 0 < m ∧ m.natAbs.log2 < 9000
def spDraw : Sp := fun vs H Q _ => ∃ (a c : Addr) (m : Int), vs = [.ref a, .int m] ∧ FeedOk H a c ∧ Mid m ∧ ∀ r H', 0 ≤ r → r < m → FeedOk H' a c → But a H H' → Q (.int r) H'
section
variable {P : Program} {w : World} {K : PySem.W.Frag} {mg : Str → Option Value} {base : Heap} {fa : Nat → Addr} {fd : Nat → FuncData}
theorem ok_draw (T : Txt K mg fa fd) : FnOk P w K mg base CX0 1 (fa 6) (fd 6) ["_law_feed_here", "_law_many"] spDraw := by
  refine T.F_draw.ok sc_draw (fun vs H Q E h => ?_) (fun cdv A outer s H vs Q E hr h => ?_)
  · obtain ⟨a, c, m, rfl, _⟩ := h
    rfl
  · obtain ⟨a, c, m, rfl, ⟨ns, k, big, mark, ha, hc, nca, hlen, hk⟩, ⟨hm, hm9⟩, q⟩ := h
    refine ⟨_, (C8.pss_cut (ps_if (pt_cmpR op_lt (pe_ix ix_list (pv 0) pe_int (fun _ _ => rfl)) pe_int (nomark _)) (C8.pss_cut (ps_asg (pe_op op_add (pe_ix ix_list (pv 0) pe_int (fun _ _ => rfl)) pe_int) (pg_sub (pv 0) pe_int set_list))
      (pss_cons (ps_set (i := 2) sc_draw.nd rfl (.inl rfl) (pe_op op_add (pe_ix ix_list (pv 0) pe_int (fun _ _ => rfl)) (pe_op op_mul (pe_ix ix_list (pv 0) pe_int (fun _ _ => rfl)) pe_int)))
      (C8.pss_cut (ps_if (pt_cmpR op_le (pe_ix ix_list (pv 0) pe_int (fun _ _ => rfl)) (pe_callB call_len_seq (by rfl) T.m_len PySem.boot_len (pa_cons (pe_ix ix_list (pv 0) pe_int (fun _ _ => rfl)) pa_nil)) (nomark _)) (pss_one (ps_set (i := 2) sc_draw.nd rfl (.inl rfl) (pe_ix ix_list (pe_ix ix_list (pv 0) pe_int (fun _ _ => rfl)) (pe_op op_sub (pe_ix ix_list (pv 0) pe_int (fun _ _ => rfl)) pe_int) (fun _ _ => rfl)))) pss_nil)
      (pss_cons (ps_if (PW.pt (pw_or (pt_cmpR op_gt (pe_ix ix_list (pv 0) pe_int (fun _ _ => rfl)) (pe_callB call_len_seq (by rfl) T.m_len PySem.boot_len (pa_cons (pe_ix ix_list (pv 0) pe_int (fun _ _ => rfl)) pa_nil)) (nomark _)) (pw_or1 (pt_cmpR op_lt (pv 2) (pe_op op_pow pe_int pe_int) (nomark _))))) (pss_cons (ps_set (i := 3) sc_draw.nd rfl (.inl rfl) (pe_op op_mod (pe_callTy call_int1 (by rfl) T.m_int PySem.Pv.boot_int (pa_cons (pe_op op_add (pe_op op_add (pe_op op_mul (pv 2) pe_int) (pe_op op_mul (pe_ix ix_list (pv 0) pe_int (fun _ _ => rfl)) pe_int)) (pe_ix ix_list (pv 0) pe_int (fun _ _ => rfl))) pa_nil)) pe_int))
      (pss_cons (ps_set (i := 4) sc_draw.nd rfl (.inl rfl) (pe_op op_mod (pe_callTy call_int1 (by rfl) T.m_int PySem.Pv.boot_int (pa_cons (pe_op op_add (pe_op op_mul (pv 3) (pv 3)) (pe_op op_mul (pe_ix ix_list (pv 0) pe_int (fun _ _ => rfl)) pe_int)) pa_nil)) pe_int))
      (pss_one (ps_ret (pe_op op_mod (pe_op op_fdiv (pe_op op_mod (pe_callTy call_int1 (by rfl) T.m_int PySem.Pv.boot_int (pa_cons (pe_op op_add (pe_op op_mul (pv 4) pe_int) (pv 3)) pa_nil)) pe_int) pe_int) (pv 1)))))) pss_nil)
      (pss_one (ps_asg (pv 2) (pg_sub (pv 0) pe_int set_list))))))) pss_nil)
      (pss_cons (ps_set (i := 5) sc_draw.nd rfl (.inl rfl) (pe_op op_mod (pe_callTy call_int1 (by rfl) T.m_int PySem.Pv.boot_int (pa_cons (pe_ix ix_list (pv 0) pe_int (fun _ _ => rfl)) pa_nil)) (pv 1)))
      (pss_cons (ps_asg (pe_op op_fdivW (pe_callTy call_int1 (by rfl) T.m_int PySem.Pv.boot_int (pa_cons (pe_ix ix_list (pv 0) pe_int (fun _ _ => rfl)) pa_nil)) (pv 1)) (pg_sub (pv 0) pe_int set_list))
      (pss_one (ps_ret (pv 5)))))), ?_⟩
    have i0 : ∀ (x y z u : V), atI [x, y, z, u] 0 = some x := fun _ _ _ _ => rfl
    have i1 : ∀ (x y z u : V), atI [x, y, z, u] 1 = some y := fun _ _ _ _ => rfl
    have i2 : ∀ (x y z u : V), atI [x, y, z, u] 2 = some z := fun _ _ _ _ => rfl
    have i3 : ∀ (x y z u : V), atI [x, y, z, u] 3 = some u := fun _ _ _ _ => rfl
    refine ⟨fun σ H1 => FeedOk H1 a c ∧ But a H H1 ∧ ∃ y2 y3 y4 y5, σ = [some (.ref a), some (.int m), y2, y3, y4, y5], ?_, fun σ H1 hM => ?_⟩
    · refine ⟨.ref a, rfl, a, _, _, _, rfl, rfl, SqL.of ha, i2 _ _ _ _, _, _, rfl, rfl, _, rfl, ite2 (fun e => ?_) (fun e => ?_)⟩
      · -- feed[1] = feed[1] + 1
        refine ⟨fun σ H1 => σ = [some (.ref a), some (.int m), none, none, none, none] ∧ H1 a = some (.lst [.ref c, .int (k + 1), .int big, .int mark]) ∧ H1 c = some (.lst (ns.map V.int)) ∧ But a H H1,
          ⟨.ref a, rfl, a, _, _, _, rfl, rfl, SqL.of ha, i1 _ _ _ _, _, _, rfl, rfl, .ref a, rfl, a, _, _, 1, rfl, rfl, ha, rfl, rfl, upd_same, by rw [upd_ne nca]; exact hc, But.upd⟩, fun σ H1 hM => ?_⟩
        obtain ⟨rfl, ha1, hc1, b1⟩ := hM
        refine ⟨.ref a, rfl, a, _, _, _, rfl, rfl, SqL.of ha1, i3 _ _ _ _, .ref a, rfl, a, _, _, _, rfl, rfl, SqL.of ha1, i1 _ _ _ _, _, _, rfl, rfl, .inr (by decide), _, _, rfl, rfl, ?_⟩
        refine ⟨fun σ H2 => H2 = H1 ∧ ∃ z : Int, σ = [some (.ref a), some (.int m), some (.int z), none, none, none], ?_, fun σ H2 hM => ?_⟩
        · refine ⟨.ref a, rfl, a, _, _, _, rfl, rfl, SqL.of ha1, i1 _ _ _ _, .ref a, rfl, a, _, _, _, rfl, rfl, SqL.of ha1, i0 _ _ _ _, c, _, rfl, .inl (SqL.of hc1), _, _, rfl, rfl, _, rfl, ite2 (fun e1 => ?_) (fun e1 => ?_)⟩
          · have h1 : k + 1 ≤ ((ns.map V.int).length : Int) := of_decide_eq_true e1
            rw [List.length_map] at h1
            have h2 : k.toNat < ns.length := by omega
            have g : (ns.map V.int)[k.toNat]? = some (.int ns[k.toNat]) := by rw [List.getElem?_map, List.getElem?_eq_getElem h2]; rfl
            exact ⟨.ref a, rfl, a, _, _, _, rfl, rfl, SqL.of ha1, i0 _ _ _ _, .ref a, rfl, a, _, _, _, rfl, rfl, SqL.of ha1, i1 _ _ _ _, _, _, rfl, rfl, c, _, _, _, rfl, rfl, SqL.of hc1, at_of (j := k.toNat) (by omega) g, rfl, _, rfl⟩
          · exact ⟨rfl, _, rfl⟩
        · obtain ⟨rfl, z, rfl⟩ := hM
          have tail : FeedOk (upd H2 a (.lst ([V.ref c, .int (k + 1), .int big, .int mark].set 2 (.int z)))) a c ∧ But a H (upd H2 a (.lst ([V.ref c, .int (k + 1), .int big, .int mark].set 2 (.int z)))) ∧ ∃ y2 y3 y4 y5, [some (V.ref a), some (.int m), some (.int z), none, none, none] = [some (V.ref a), some (.int m), y2, y3, y4, y5] :=
            ⟨⟨ns, k + 1, z, mark, upd_same, by rw [upd_ne nca]; exact hc1, nca, hlen, by omega⟩, b1.trans But.upd, _, _, _, _, rfl⟩
          have pos : ∀ x y : Int, 0 ≤ x % 2147483647 ∧ x % 2147483647 < 2147483647 := fun x _ => ⟨Int.emod_nonneg _ (by decide), Int.emod_lt_of_pos _ (by decide)⟩
          have done : ∀ x : Int, Q (.int (x % m)) H2 := fun x => q _ _ (Int.emod_nonneg _ (by omega)) (Int.emod_lt_of_pos _ hm) ⟨ns, k + 1, big, mark, ha1, hc1, nca, hlen, by omega⟩ b1
          refine ⟨.ref a, rfl, a, _, _, _, rfl, rfl, SqL.of ha1, i1 _ _ _ _, .ref a, rfl, a, _, _, _, rfl, rfl, SqL.of ha1, i0 _ _ _ _, c, _, rfl, .inl (SqL.of hc1), _, _, rfl, rfl, _, rfl, ite2 (fun e1 => ?_) (fun e1 => ?_)⟩
          · exact ⟨_, rfl, _, _, rfl, rfl, .inr (by decide), _, rfl, a, _, _, _, rfl, rfl, SqL.of ha1, i1 _ _ _ _, _, _, rfl, rfl, .inr (by decide), _, _, rfl, rfl, _, rfl, a, _, _, _, rfl, rfl, SqL.of ha1, i3 _ _ _ _, _, _, rfl, rfl, .inl ⟨_, rfl, _, _, rfl, rfl, (by show (0 : Int) < _; decide), _, rfl, _, rfl, _, _, rfl, rfl, .inl (by have p := pos (z * 48271 + (k + 1) * 69621 + mark) 0; exact ⟨by omega, by omega⟩), _, rfl, a, _, _, _, rfl, rfl, SqL.of ha1, i1 _ _ _ _, _, _, rfl, rfl, .inr (by decide), _, _, rfl, rfl, .inl ⟨_, rfl, _, _, rfl, rfl, (by show (0 : Int) < _; decide), _, rfl, _, _, rfl, rfl, .inr (by decide), _, rfl, _, _, rfl, rfl, .inl ⟨_, rfl, _, _, rfl, rfl, (by show (0 : Int) < _; decide), _, _, rfl, rfl, ⟨by decide, by decide⟩, _, rfl, _, _, rfl, rfl, hm, done _⟩⟩⟩⟩
          · refine ⟨_, rfl, _, _, rfl, rfl, ⟨by decide, by decide, by decide⟩, _, _, rfl, rfl, _, rfl, ite2 (fun e2 => ?_) (fun e2 => ?_)⟩
            · exact ⟨_, rfl, _, _, rfl, rfl, .inr (by decide), _, rfl, a, _, _, _, rfl, rfl, SqL.of ha1, i1 _ _ _ _, _, _, rfl, rfl, .inr (by decide), _, _, rfl, rfl, _, rfl, a, _, _, _, rfl, rfl, SqL.of ha1, i3 _ _ _ _, _, _, rfl, rfl, .inl ⟨_, rfl, _, _, rfl, rfl, (by show (0 : Int) < _; decide), _, rfl, _, rfl, _, _, rfl, rfl, .inl (by have p := pos (z * 48271 + (k + 1) * 69621 + mark) 0; exact ⟨by omega, by omega⟩), _, rfl, a, _, _, _, rfl, rfl, SqL.of ha1, i1 _ _ _ _, _, _, rfl, rfl, .inr (by decide), _, _, rfl, rfl, .inl ⟨_, rfl, _, _, rfl, rfl, (by show (0 : Int) < _; decide), _, rfl, _, _, rfl, rfl, .inr (by decide), _, rfl, _, _, rfl, rfl, .inl ⟨_, rfl, _, _, rfl, rfl, (by show (0 : Int) < _; decide), _, _, rfl, rfl, ⟨by decide, by decide⟩, _, rfl, _, _, rfl, rfl, hm, done _⟩⟩⟩⟩
            · exact ⟨_, rfl, .ref a, rfl, a, _, _, 2, rfl, rfl, ha1, rfl, tail⟩
      · exact ⟨⟨ns, k, big, mark, ha, hc, nca, hlen, hk⟩, But.refl _ _, none, none, none, none, rfl⟩
    · obtain ⟨⟨ns1, k1, big1, mark1, ha1, hc1, nca1, hlen1, hk1⟩, b1, y2, y3, y4, y5, rfl⟩ := hM
      refine ⟨.ref a, rfl, a, _, _, _, rfl, rfl, SqL.of ha1, i2 _ _ _ _, .inl ⟨_, rfl, _, rfl, _, _, rfl, rfl, hm, ?_⟩⟩
      refine ⟨.ref a, rfl, a, _, _, _, rfl, rfl, SqL.of ha1, i2 _ _ _ _, .inl ⟨_, rfl, _, rfl, _, _, rfl, rfl, ⟨hm, hm9⟩, ?_⟩⟩
      refine ⟨.ref a, rfl, a, _, _, 2, rfl, rfl, ha1, rfl, ?_⟩
      refine ⟨_, rfl, q _ _ (Int.emod_nonneg _ (by omega)) (Int.emod_lt_of_pos _ hm) ⟨ns1, k1, big1 / m, mark1, upd_same, ?_, nca1, hlen1, hk1⟩ (b1.trans But.upd)⟩
      rw [upd_ne nca1]
      exact hc1
theorem cut63 (xs : List V) (h : xs.length ≤ 63) : cutV xs none (some 63) = xs := by
  unfold cutV
  rw [show HT.sIx xs.length xs.length (some 63) = min 63 xs.length from HT.sIx_nat xs.length xs.length 63, HT.sIx_none]
  rw [Nat.min_eq_right h]
  exact List.take_length
def spFeed (K : PySem.W.Frag) : Sp := fun vs H Q _ => ∃ (a : Addr) (ns : List Int), vs = [.ref a] ∧ SqL K H a (ns.map V.int) ∧ ns.length ≤ 63 ∧ ∀ p c H', H p = none → H c = none → Same H H' → FeedOk H' p c → Q (.ref p) H'
theorem ok_feed (T : Txt K mg fa fd) : FnOk P w K mg base CX0 1 (fa 5) (fd 5) ["_law_script"] (spFeed K) := by
  refine T.F_feed.ok sc_feed (fun vs H Q E h => ?_) (fun cdv A outer s H vs Q E hr h => ?_)
  · obtain ⟨a, ns, rfl, _⟩ := h
    rfl
  · obtain ⟨a, ns, rfl, hS, hlen, q⟩ := h
    refine ⟨_, (C8.pss_cut (ps_setLc (i := 2) (own := [("_law_cell", 1)]) (g := gName 1) (tt := tYes) rfl sc_feed.nd rfl rfl (sw_true rfl rfl rfl (by decide +kernel)) (pi_list (pe_slice sl_list (pv 0) po_none (po_some pe_int))) (blkOk_by (own := [("_law_cell", 1)]) (N := ["_law_script", "_law_cell", "_law_cells", "_law_mark"]) (sc := defScope s_feed) (by decide +kernel)) (fun _ _ _ _ _ => pg_name (i := 1) sc_feed.nd rfl (Or.inl rfl)) (fun _ _ _ _ _ => pts_nil) (fun _ _ _ _ _ => (pe_callTy call_int1 (by rfl) T.m_int PySem.Pv.boot_int (pa_cons (pv 1) pa_nil))))
      (pss_cons (ps_set (i := 3) sc_feed.nd rfl (.inl rfl) (pe_op op_add pe_int (pe_op op_mul pe_int (pe_callB call_len_seq (by rfl) T.m_len PySem.boot_len (pa_cons (pv 2) pa_nil)))))
      (pss_cons (ps_for PassesOwn.never rfl (pi_list (pv 2)) (pg_name (i := 1) sc_feed.nd rfl (.inl rfl)) (pss_one (ps_set (i := 3) sc_feed.nd rfl (.inl rfl) (pe_op op_mod (pe_callTy call_int1 (by rfl) T.m_int PySem.Pv.boot_int (pa_cons (pe_op op_add (pe_op op_mul (pv 3) pe_int) (pv 1)) pa_nil)) pe_int))))
      (pss_one (ps_ret (pe_lst (pa_cons (pv 2) (pa_cons pe_int (pa_cons pe_int (pa_cons (pv 3) pa_nil)))))))))), ?_⟩
    refine ⟨fun σ H1 => ∃ c, σ = [some (.ref a), none, some (.ref c), none] ∧ H c = none ∧ Same H H1 ∧ H1 c = some (.lst (ns.map V.int)), ?_, fun σ H1 hM => ?_⟩
    · refine ⟨.ref a, rfl, 63, rfl, a, _, rfl, hS, fun p np => ?_⟩
      rw [cut63 _ (by rw [List.length_map]; exact hlen)]
      have s1 : Same H (upd H p (.lst (ns.map V.int))) := same_upd np
      refine ⟨p, rfl, ⟨_, SqL.of upd_same⟩, fun D nD => ?_⟩
      have nD0 : H D = none := s1.free nD
      have npD : p ≠ D := ne_of_none upd_same nD
      refine lc_list (K := K) (a := p) (xs := ns.map V.int) (fun i H2 => Same (upd H p (.lst (ns.map V.int))) H2 ∧ H2 D = some (.lst ((ns.take i).map V.int))) ⟨same_upd nD, upd_same⟩ (fun i H2 _ hp => SqL.of (hp.1 _ _ upd_same)) (fun i x H2 hx hp => ?_) (fun H2 hp => ?_)
      · rw [List.getElem?_map] at hx
        obtain ⟨z, hz, rfl⟩ := Option.map_eq_some_iff.mp hx
        refine ⟨rfl, _, rfl, .inl ⟨_, rfl, _, hp.2, ?_, ?_, ?_⟩⟩
        · rw [List.length_map, List.length_take]
          exact Nat.lt_of_le_of_lt (Nat.min_le_left _ _) (small1000 (by
            have := (List.getElem?_eq_some_iff.mp hz).1
            omega))
        · exact fun b o e => by
            rw [upd_ne (ne_of_none e nD)]
            exact hp.1 b o e
        · rw [upd_same, List.take_add_one, hz, List.map_append]
          rfl
      · rw [List.length_map] at hp
        refine ⟨D, rfl, nD0, s1.trans hp.1, ?_⟩
        rw [hp.2, List.take_length]
    · obtain ⟨c, rfl, nc, s1, hc⟩ := hM
      refine ⟨_, rfl, c, _, rfl, .inl (SqL.of hc), _, _, rfl, rfl, .inl (by decide), _, _, rfl, rfl, ?_⟩
      refine ⟨_, rfl, c, rfl, ⟨_, SqL.of hc⟩, for_list (K := K) (a := c) (xs := ns.map V.int) (fun i σ H2 => H2 = H1 ∧ ∃ (y1 : Option V) (m : Int), σ = [some (.ref a), y1, some (.ref c), some (.int m)] ∧ 0 ≤ m ∧ m < 1000000000000) ?_ (fun i σ H2 _ hp => by rw [hp.1]; exact SqL.of hc) (fun i x σ H2 hx hp => ?_) (fun σ H2 hp => ?_)⟩
      · refine ⟨rfl, _, _, rfl, ?_⟩
        rw [List.length_map]
        omega
      · obtain ⟨rfl, y1, m, rfl, h0, h1⟩ := hp
        rw [List.getElem?_map] at hx
        obtain ⟨z, hz, rfl⟩ := Option.map_eq_some_iff.mp hx
        exact ⟨_, rfl, _, _, rfl, rfl, .inr (by decide), _, rfl, _, _, rfl, rfl, .inl ⟨_, rfl, _, _, rfl, rfl, (by show (0 : Int) < _; decide), rfl, _, _, rfl, Int.emod_nonneg _ (by decide), Int.lt_trans (Int.emod_lt_of_pos _ (by decide)) (by decide)⟩⟩
      · obtain ⟨rfl, y1, m, rfl, h0, h1⟩ := hp
        refine ⟨_, rfl, _, rfl, Nat.le_trans (by decide : 4 ≤ 1000) (Nat.le_of_lt (small1000 (Nat.le_refl _))), fun p np => ?_⟩
        refine q p c _ (s1.free np) nc (s1.trans (same_upd np)) ⟨ns, 0, 0, m, upd_same, ?_, ne_of_none hc np, hlen, Int.le_refl _⟩
        rw [upd_ne (ne_of_none hc np)]
        exact hc
/-! ### the row's own draw -/
def spAny : Sp := fun vs H Q _ => ∃ (a c r : Addr) (xs : List V), vs = [.ref a, .ref r] ∧ FeedOk H a c ∧ H r = some (.lst xs) ∧ r ≠ a ∧ 0 < xs.length ∧ xs.length ≤ 1000 ∧ ∀ v H', v ∈ xs → FeedOk H' a c → But a H H' → Q v H'
theorem mid_small {n : Nat} (h0 : 0 < n) (h : n ≤ 1000) : Mid (n : Int) := ⟨by omega, by
  rw [Int.natAbs_natCast]
  exact Nat.lt_of_le_of_lt (Nat.log2_le_self n) (by omega)⟩
theorem ok_any (T : Txt K mg fa fd) : FnOk P w K mg base CX0 2 (fa 7) (fd 7) ["_law_feed_here", "_law_row"] spAny := by
  refine T.F_any.ok sc_any (fun vs H Q E h => ?_) (fun cdv A outer s H vs Q E hr h => ?_)
  · obtain ⟨a, c, m, xs, rfl, _⟩ := h
    rfl
  · obtain ⟨a, c, r, xs, rfl, hF, hx, nra, h0, h1, q⟩ := h
    refine ⟨_, (pss_one (ps_ret (pe_ix ix_list (pv 1) (pe_call (ok_draw T) (hr.mono (by decide)) (by rfl) T.g_draw T.F_draw.kp T.b_draw .nil pass0 (pa_cons (pv 0) (pa_cons (pe_callB call_len_seq (by rfl) T.m_len PySem.boot_len (pa_cons (pv 1) pa_nil)) pa_nil))) (fun _ _ => rfl)))), ?_⟩
    refine ⟨_, rfl, _, rfl, _, rfl, r, _, rfl, .inl (SqL.of hx), a, c, _, rfl, hF, mid_small h0 h1, fun z H' z0 z1 hF' b => ?_⟩
    have hz : z.toNat < xs.length := by omega
    exact ⟨r, xs, z, xs[z.toNat], rfl, rfl, SqL.of (b _ _ nra hx), at_of (j := z.toNat) (by omega) (List.getElem?_eq_getElem hz), q _ _ (List.getElem_mem hz) hF' b⟩
/-! ### the greatest common divisor -/
def spGcd : Sp := fun vs H Q _ => ∃ x y : Int, vs = [.int x, .int y] ∧ Q (.int (Int.gcd x y : Nat)) H
theorem ok_gcd (T : Txt K mg fa fd) : FnOk P w K mg base CX0 1 (fa 9) (fd 9) ["_law_one", "_law_two"] spGcd := by
  refine T.F_gcd.ok sc_gcd (fun vs H Q E h => ?_) (fun cdv A outer s H vs Q E hr h => ?_)
  · obtain ⟨x, y, rfl, _⟩ := h
    rfl
  · obtain ⟨x, y, rfl, q⟩ := h
    refine ⟨_, (pss_cons (ps_par (i := 0) (j := 1) (by rfl) sc_gcd.nd rfl rfl (by decide) rfl rfl (pa_cons (pe_callB call_abs (by rfl) T.m_abs PyProof.Rows.boot_abs (pa_cons (pv 0) pa_nil)) (pa_cons (pe_callB call_abs (by rfl) T.m_abs PyProof.Rows.boot_abs (pa_cons (pv 1) pa_nil)) pa_nil)) (by rfl))
      (pss_cons (ps_while PassesOwn.never (pt_cmpR op_ne (pv 1) pe_int (nomark _)) (pss_one (ps_par (i := 0) (j := 1) (by rfl) sc_gcd.nd rfl rfl (by decide) rfl rfl (pa_cons (pv 1) (pa_cons (pe_op op_mod (pe_callTy call_int1 (by rfl) T.m_int PySem.Pv.boot_int (pa_cons (pv 0) pa_nil)) (pv 1)) pa_nil)) (by rfl))))
      (pss_one (ps_ret (pv 0))))), ?_⟩
    refine ⟨_, rfl, _, rfl, _, rfl, _, rfl, _, _, rfl, ?_⟩
    have ab : ∀ z : Int, (if z < 0 then -z else z) = (z.natAbs : Int) := fun z => by split <;> omega
    rw [ab, ab]
    refine ⟨fun m σ H1 => ∃ u v : Nat, m = v ∧ σ = [some (.int (u : Int)), some (.int (v : Int))] ∧ H1 = H ∧ Nat.gcd u v = Int.gcd x y, ⟨_, x.natAbs, y.natAbs, rfl, rfl, rfl, rfl⟩, fun m σ H1 hW => ?_⟩
    obtain ⟨u, v, rfl, rfl, rfl, hg⟩ := hW
    refine ⟨_, rfl, rfl, _, rfl, ?_⟩
    by_cases hv : m = 0
    · subst hv
      rw [decide_eq_true (show V.int ((0 : Nat) : Int) = V.int 0 from rfl)]
      refine ⟨_, rfl, ?_⟩
      rw [Nat.gcd_zero_right] at hg
      rw [hg]
      exact q
    · rw [decide_eq_false (fun e => hv (by have := V.int.inj e; omega))]
      refine ⟨fun σ' H' => ∃ m', m' < m ∧ ∃ u v : Nat, m' = v ∧ σ' = [some (.int (u : Int)), some (.int (v : Int))] ∧ H' = H1 ∧ Nat.gcd u v = Int.gcd x y, fun σ' H' h => h, ?_⟩
      refine ⟨_, rfl, _, rfl, .inl ⟨_, rfl, _, rfl, _, _, rfl, rfl, (by show (0 : Int) < _; omega), ?_⟩⟩
      refine ⟨_, _, rfl, u % m, Nat.mod_lt _ (by omega), m, u % m, rfl, rfl, rfl, ?_⟩
      rw [← hg, Nat.gcd_comm m, ← Nat.gcd_rec, Nat.gcd_comm]
/-! ### lowest terms -/
def CDivG (_ j : Int) : Prop := j ≠ 0 ∧ j.natAbs.log2 < 9000
theorem op_fdivG {X : Cx} : OpR X (binaryOp .FloorDiv) (rI CDivG fun i j => .int (i.fdiv j)) := opI fun _ _ _ _ _ _ _ hc q => floordiv_int hc.1 q (.inl (PyProof.noPylong_of_log2 hc.2))
def lowG (u v : Int) : Int := if v < 0 then -(Int.gcd u v : Nat) else (Int.gcd u v : Nat)
def lowT (u v : Int) : Int := u.fdiv (lowG u v)
def lowD (u v : Int) : Int := v.fdiv (lowG u v)
theorem gcd_pos {u v : Int} (h : v ≠ 0) : 0 < Int.gcd u v := Nat.pos_of_ne_zero fun e => h (Int.gcd_eq_zero_iff.mp e).2
theorem gcd_le {u v : Int} (h : v ≠ 0) : Int.gcd u v ≤ v.natAbs := Nat.le_of_dvd (by omega) (Nat.gcd_dvd_right _ _)
theorem log2_mono {a b k : Nat} (h : a ≤ b) (hb : b.log2 < k) : a.log2 < k := by
  by_cases h0 : a = 0
  · subst h0
    rw [Nat.log2_zero]
    omega
  · have hb0 : b ≠ 0 := by omega
    exact (Nat.log2_lt h0).mpr (Nat.lt_of_le_of_lt h ((Nat.log2_lt hb0).mp hb))
theorem lowG_ok {u v : Int} (h : v ≠ 0) (h9 : v.natAbs.log2 < 9000) : CDivG u (lowG u v) := by
  have h1 := gcd_pos (u := u) h
  have h2 := gcd_le (u := u) h
  unfold lowG
  split
  · exact ⟨by omega, by rw [Int.natAbs_neg, Int.natAbs_natCast]; exact log2_mono h2 h9⟩
  · exact ⟨by omega, by rw [Int.natAbs_natCast]; exact log2_mono h2 h9⟩
def spLow : Sp := fun vs H Q _ => ∃ u v : Int, vs = [.int u, .int v] ∧ v ≠ 0 ∧ v.natAbs.log2 < 9000 ∧ ∀ p, H p = none → Q (.ref p) (upd H p (.tup [.int (lowT u v), .int (lowD u v)]))
theorem two_line : 2 ≤ sizeLine := Nat.le_trans (by decide : 2 ≤ 1000) (Nat.le_of_lt (small1000 (Nat.le_refl _)))
theorem ok_low (T : Txt K mg fa fd) : FnOk P w K mg base CX0 2 (fa 10) (fd 10) ["_law_upper", "_law_lower"] spLow := by
  refine T.F_low.ok sc_low (fun vs H Q E h => ?_) (fun cdv A outer s H vs Q E hr h => ?_)
  · obtain ⟨x, y, rfl, _⟩ := h
    rfl
  · obtain ⟨u, v, rfl, h0, h9, q⟩ := h
    refine ⟨_, (pss_cons (ps_set (i := 2) sc_low.nd rfl (.inl rfl) (pe_call (ok_gcd T) (hr.mono (by decide)) (by rfl) T.g_gcd T.F_gcd.kp T.b_gcd .nil pass0 (pa_cons (pv 0) (pa_cons (pv 1) pa_nil))))
      (C8.pss_cut (ps_if (pt_cmpR op_lt (pv 1) pe_int (nomark _)) (pss_one (ps_set (i := 2) sc_low.nd rfl (.inl rfl) (pe_un un_neg (pv 2)))) pss_nil)
      (pss_one (ps_ret (pe_tup (pa_cons (pe_op op_fdivG (pv 0) (pv 2)) (pa_cons (pe_op op_fdivG (pv 1) (pv 2)) pa_nil))))))), ?_⟩
    refine ⟨_, rfl, _, rfl, u, v, rfl, ?_⟩
    refine ⟨fun σ H1 => H1 = H ∧ σ = [some (.int u), some (.int v), some (.int (lowG u v))], ?_, fun σ H1 hM => ?_⟩
    · refine ⟨_, rfl, _, _, rfl, rfl, _, rfl, ite2 (fun e => ?_) (fun e => ?_)⟩
      · refine ⟨_, rfl, _, rfl, rfl, ?_⟩
        unfold lowG
        rw [if_pos (of_decide_eq_true e)]
        rfl
      · refine ⟨rfl, ?_⟩
        unfold lowG
        rw [if_neg (fun z => e (decide_eq_true z))]
        rfl
    · obtain ⟨rfl, rfl⟩ := hM
      have hG := lowG_ok (u := u) h0 h9
      exact ⟨_, rfl, _, rfl, _, _, rfl, rfl, hG, _, rfl, _, rfl, _, _, rfl, rfl, hG, two_line, q⟩
/-! ### sameness of data -/
def Leaf (v w : V) : Prop := v = w ∧ (v = .non ∨ (∃ b, v = .bl b) ∨ (∃ i, v = .int i) ∨ ∃ x, v = .str x)
def Eqd (H : Hp) : Nat → V → V → Prop
  | 0, v, w => Leaf v w
  | n + 1, v, w => Leaf v w ∨ ∃ (a b : Addr) (xs ys : List V), v = .ref a ∧ w = .ref b ∧ ((H a = some (.lst xs) ∧ H b = some (.lst ys)) ∨ (H a = some (.tup xs) ∧ H b = some (.tup ys))) ∧ xs.length = ys.length ∧ xs.length ≤ 1000 ∧
      ∀ (i : Nat) (x y : V), xs[i]? = some x → ys[i]? = some y → Eqd H n x y
theorem Eqd.leaf {H : Hp} {n : Nat} {v w : V} (h : Leaf v w) : Eqd H n v w := by
  cases n with
  | zero => exact h
  | succ n => exact .inl h
theorem Eqd.mono {H H' : Hp} (s : Same H H') : ∀ (n : Nat) {v w : V}, Eqd H n v w → Eqd H' n v w
  | 0, _, _, h => h
  | n + 1, _, _, h => by
    rcases h with h | ⟨a, b, xs, ys, e1, e2, h, l1, l2, r⟩
    · exact .inl h
    · refine .inr ⟨a, b, xs, ys, e1, e2, ?_, l1, l2, fun i x y h1 h2 => Eqd.mono s n (r i x y h1 h2)⟩
      rcases h with ⟨h1, h2⟩ | ⟨h1, h2⟩
      · exact .inl ⟨s _ _ h1, s _ _ h2⟩
      · exact .inr ⟨s _ _ h1, s _ _ h2⟩
def spSame (n : Nat) : Sp := fun vs H Q _ => ∃ v w : V, vs = [v, w] ∧ Eqd H n v w ∧ ∀ H', Same H H' → Q (.bl true) H'
def spS : Nat → Sp
  | 0 => fun _ _ _ _ => False
  | n + 1 => spSame n
theorem none_of_false {K : PySem.W.Frag} {f : Addr} {fd : FuncData} {st : Stmt} {x : Str} {N ps : List Str} (F : Fun K x x st f fd) (S : FnScope N ps (defScope st)) : FnOk P w K mg base CX0 1 f fd ps (fun _ _ _ _ => False) :=
  F.ok S (fun _ _ _ _ h => h.elim) fun _ _ _ _ _ _ _ _ _ h => h.elim
theorem kit2 {K : PySem.W.Frag} {a b c : String} {r1 r2 : Bool} (h1 : kitB a b = some r1) (h2 : kitB a c = some r2) : PySem.W.kitAny K (.type a) [.type b, .type c] = some (r1 || r2) := by
  cases r1 with
  | true => exact kitAny_cons (kit_ty h1) (fun h => nomatch h) fun _ => rfl
  | false =>
    refine kitAny_cons (kit_ty h1) (fun _ => ?_) fun h => nomatch h
    cases r2 with
    | true => exact kitAny_cons (kit_ty h2) (fun h => nomatch h) fun _ => rfl
    | false => exact kitAny_cons (kit_ty h2) (fun _ => kitAny_nil) fun h => nomatch h
theorem same_step (T : Txt K mg fa fd) (n : Nat) (G : FnOk P w K mg base CX0 (n + 1) (fa 8) (fd 8) ["_law_found", "_law_due"] (spS n)) : FnOk P w K mg base CX0 (n + 2) (fa 8) (fd 8) ["_law_found", "_law_due"] (spSame n) := by
  refine T.F_same.ok sc_same (fun vs H Q E h => ?_) (fun cdv A outer s H vs Q E hr h => ?_)
  · obtain ⟨x, y, rfl, _⟩ := h
    rfl
  · obtain ⟨x, y, rfl, hE, q⟩ := h
    refine ⟨_, (pss_cons (ps_if (pt_cmpR op_isN (pv 1) pe_non (nomark _)) (pss_one (ps_ret (pe_cmpR op_isN (pv 0) pe_non (nomark _)))) pss_nil)
      (pss_cons (ps_if (PW.pt (pw_or (pt_val (pe_callB call_isi (by rfl) T.m_isinstance PyProof.Rows.boot_isinstance (pa_cons (pv 1) (pa_cons (pe_bltn (v := .ty "bool") (by rfl) T.m_bool (by decide +kernel) rfl) pa_nil)))) (pw_or1 (pt_val (pe_callB call_isi (by rfl) T.m_isinstance PyProof.Rows.boot_isinstance (pa_cons (pv 0) (pa_cons (pe_bltn (v := .ty "bool") (by rfl) T.m_bool (by decide +kernel) rfl) pa_nil))))))) (pss_one (ps_ret (pe_and (pe_callB call_isi (by rfl) T.m_isinstance PyProof.Rows.boot_isinstance (pa_cons (pv 1) (pa_cons (pe_bltn (v := .ty "bool") (by rfl) T.m_bool (by decide +kernel) rfl) pa_nil))) (pe_and (pe_callB call_isi (by rfl) T.m_isinstance PyProof.Rows.boot_isinstance (pa_cons (pv 0) (pa_cons (pe_bltn (v := .ty "bool") (by rfl) T.m_bool (by decide +kernel) rfl) pa_nil))) (pe_one (pe_cmpR op_eq (pv 0) (pv 1) (nomark _))))))) pss_nil)
      (pss_cons (ps_if (pt_val (pe_callB call_isiT (by rfl) T.m_isinstance PyProof.Rows.boot_isinstance (pa_cons (pv 1) (pa_cons (pe_tup (pa_cons (pe_bltn (v := .ty "int") (by rfl) T.m_int (by decide +kernel) rfl) (pa_cons (pe_bltn (v := .ty "str") (by rfl) T.m_str (by decide +kernel) rfl) pa_nil))) pa_nil)))) (pss_one (ps_ret (pe_and (pe_callB call_isiT (by rfl) T.m_isinstance PyProof.Rows.boot_isinstance (pa_cons (pv 0) (pa_cons (pe_tup (pa_cons (pe_bltn (v := .ty "int") (by rfl) T.m_int (by decide +kernel) rfl) (pa_cons (pe_bltn (v := .ty "str") (by rfl) T.m_str (by decide +kernel) rfl) pa_nil))) pa_nil))) (pe_and (pe_cmpR op_eq (pe_callB call_isi (by rfl) T.m_isinstance PyProof.Rows.boot_isinstance (pa_cons (pv 0) (pa_cons (pe_bltn (v := .ty "int") (by rfl) T.m_int (by decide +kernel) rfl) pa_nil))) (pe_callB call_isi (by rfl) T.m_isinstance PyProof.Rows.boot_isinstance (pa_cons (pv 1) (pa_cons (pe_bltn (v := .ty "int") (by rfl) T.m_int (by decide +kernel) rfl) pa_nil))) (nomark _)) (pe_one (pe_cmpR op_eq (pv 0) (pv 1) (nomark _))))))) pss_nil)
      (pss_cons (ps_if (pt_val (pe_callB call_isi (by rfl) T.m_isinstance PyProof.Rows.boot_isinstance (pa_cons (pv 1) (pa_cons (pe_bltn (v := .ty "dict") (by rfl) T.m_dict (by decide +kernel) rfl) pa_nil)))) (pss_cons ps_never
      (pss_one ps_never)) pss_nil)
      (pss_cons (ps_if (PW.pt (pw_or (pt_cmpR op_ne (pe_callB call_isi (by rfl) T.m_isinstance PyProof.Rows.boot_isinstance (pa_cons (pv 1) (pa_cons (pe_bltn (v := .ty "list") (by rfl) T.m_list (by decide +kernel) rfl) pa_nil))) (pe_callB call_isi (by rfl) T.m_isinstance PyProof.Rows.boot_isinstance (pa_cons (pv 0) (pa_cons (pe_bltn (v := .ty "list") (by rfl) T.m_list (by decide +kernel) rfl) pa_nil))) (nomark _)) (pw_or1 (pt_cmpR op_ne (pe_callB call_isi (by rfl) T.m_isinstance PyProof.Rows.boot_isinstance (pa_cons (pv 1) (pa_cons (pe_bltn (v := .ty "tuple") (by rfl) T.m_tuple (by decide +kernel) rfl) pa_nil))) (pe_callB call_isi (by rfl) T.m_isinstance PyProof.Rows.boot_isinstance (pa_cons (pv 0) (pa_cons (pe_bltn (v := .ty "tuple") (by rfl) T.m_tuple (by decide +kernel) rfl) pa_nil))) (nomark _))))) (pss_one (ps_ret pe_bl)) pss_nil)
      (pss_one (ps_ret (pe_and (pe_cmpR op_eq (pe_callB call_len_seq (by rfl) T.m_len PySem.boot_len (pa_cons (pv 0) pa_nil)) (pe_callB call_len_seq (by rfl) T.m_len PySem.boot_len (pa_cons (pv 1) pa_nil)) (nomark _)) (pe_one (pe_callB (cr_all rfl) (by rfl) T.m_all PyProof.Rows.boot_all (pa_cons (pe_lc (own := [("_law_one", 3), ("_law_two", 4)]) (g := gTup K 2 (gCons (gName 3) (gCons (gName 4) gNil))) (tt := tYes) rfl sc_same.nd (RZ.pi_zipA (by rfl) T.m_zip (pa_cons (pv 0) (pa_cons (pv 1) pa_nil))) (blkOk_by (own := [("_law_one", 3), ("_law_two", 4)]) (N := ["_law_found", "_law_due", "_law_key", "_law_one", "_law_two"]) (sc := defScope s_same) (by decide +kernel)) (fun _ _ _ _ _ => pg_tup rfl (pgs_cons (pg_name (i := 3) sc_same.nd rfl (Or.inl rfl)) (pgs_cons (pg_name (i := 4) sc_same.nd rfl (Or.inl rfl)) pgs_nil))) (fun _ _ _ _ _ => pts_nil) (fun _ _ _ _ _ => (pe_call G (hr.mono (by omega)) (by rfl) T.g_same T.F_same.kp T.b_same .nil pass0 (pa_cons (pv 3) (pa_cons (pv 4) pa_nil))))) pa_nil))))))))))), ?_⟩
    have leafy : Leaf x y ∨ ∃ (n' : Nat) (a b : Addr) (xs ys : List V), n = n' + 1 ∧ x = .ref a ∧ y = .ref b ∧ ((H a = some (.lst xs) ∧ H b = some (.lst ys)) ∨ (H a = some (.tup xs) ∧ H b = some (.tup ys))) ∧ xs.length = ys.length ∧ xs.length ≤ 1000 ∧
        ∀ (i : Nat) (x y : V), xs[i]? = some x → ys[i]? = some y → Eqd H n' x y := by
      cases n with
      | zero => exact .inl hE
      | succ n' =>
        rcases hE with h | ⟨a, b, xs, ys, h⟩
        · exact .inl h
        · exact .inr ⟨n', a, b, xs, ys, rfl, h⟩
    rcases leafy with ⟨rfl, hl⟩ | ⟨n', a, b, xs, ys, rfl, rfl, rfl, hab, hlen, h1000, hsub⟩
    · refine ⟨_, rfl, rfl, _, rfl, ite2 (fun e => ?_) (fun e => ?_)⟩
      · have ex := of_decide_eq_true e
        subst ex
        exact ⟨_, rfl, rfl, q _ (Same.refl _)⟩
      · rcases hl with rfl | ⟨bb, rfl⟩ | ⟨i, rfl⟩ | ⟨z, rfl⟩
        · exact absurd (decide_eq_true rfl) e
        · refine ⟨_, rfl, _, _, _, _, _, rfl, .ty _, .base (.bl _), kit_ty (r := true) (by decide +kernel), _, rfl, iteT (iteT ?_)⟩
          refine ⟨_, rfl, _, _, _, _, _, rfl, .ty _, .base (.bl _), kit_ty (r := true) (by decide +kernel), _, rfl, iteT ?_⟩
          refine ⟨_, rfl, _, _, _, _, _, rfl, .ty _, .base (.bl _), kit_ty (r := true) (by decide +kernel), _, rfl, iteT ?_⟩
          refine ⟨_, rfl, _, rfl, rfl, ?_⟩
          rw [decide_eq_true rfl]
          exact q _ (Same.refl _)
        · refine ⟨_, rfl, _, _, _, _, _, rfl, .ty _, .base (.int _), kit_ty (r := false) (by decide +kernel), _, rfl, iteF ?_⟩
          refine ⟨_, rfl, _, _, _, _, _, rfl, .ty _, .base (.int _), kit_ty (r := false) (by decide +kernel), _, rfl, iteF ?_⟩
          refine ⟨_, rfl, two_line, fun p np => ?_⟩
          refine ⟨_, p, _, _, _, _, rfl, upd_same, .cons (.ty _) (.cons (.ty _) .nil), .base (.int _), kit2 (r1 := true) (r2 := false) (by decide +kernel) (by decide +kernel), _, rfl, iteT ?_⟩
          refine ⟨_, rfl, two_line, fun p2 np2 => ?_⟩
          refine ⟨_, p2, _, _, _, _, rfl, upd_same, .cons (.ty _) (.cons (.ty _) .nil), .base (.int _), kit2 (r1 := true) (r2 := false) (by decide +kernel) (by decide +kernel), _, rfl, iteT ?_⟩
          refine ⟨_, rfl, _, _, _, _, _, rfl, .ty _, .base (.int _), kit_ty (r := true) (by decide +kernel), ?_⟩
          refine ⟨_, rfl, _, _, _, _, _, rfl, .ty _, .base (.int _), kit_ty (r := true) (by decide +kernel), rfl, _, rfl, iteT ?_⟩
          refine ⟨_, rfl, _, rfl, rfl, ?_⟩
          rw [decide_eq_true rfl]
          exact q _ ((same_upd np).trans (same_upd np2))
        · refine ⟨_, rfl, _, _, _, _, _, rfl, .ty _, .base (.str _), kit_ty (r := false) (by decide +kernel), _, rfl, iteF ?_⟩
          refine ⟨_, rfl, _, _, _, _, _, rfl, .ty _, .base (.str _), kit_ty (r := false) (by decide +kernel), _, rfl, iteF ?_⟩
          refine ⟨_, rfl, two_line, fun p np => ?_⟩
          refine ⟨_, p, _, _, _, _, rfl, upd_same, .cons (.ty _) (.cons (.ty _) .nil), .base (.str _), kit2 (r1 := false) (r2 := true) (by decide +kernel) (by decide +kernel), _, rfl, iteT ?_⟩
          refine ⟨_, rfl, two_line, fun p2 np2 => ?_⟩
          refine ⟨_, p2, _, _, _, _, rfl, upd_same, .cons (.ty _) (.cons (.ty _) .nil), .base (.str _), kit2 (r1 := false) (r2 := true) (by decide +kernel) (by decide +kernel), _, rfl, iteT ?_⟩
          refine ⟨_, rfl, _, _, _, _, _, rfl, .ty _, .base (.str _), kit_ty (r := false) (by decide +kernel), ?_⟩
          refine ⟨_, rfl, _, _, _, _, _, rfl, .ty _, .base (.str _), kit_ty (r := false) (by decide +kernel), rfl, _, rfl, iteT ?_⟩
          refine ⟨_, rfl, _, rfl, rfl, ?_⟩
          rw [decide_eq_true rfl]
          exact q _ ((same_upd np).trans (same_upd np2))
    · refine ⟨_, rfl, rfl, _, rfl, ite2 (fun e => absurd (of_decide_eq_true e) (by intro z; cases z)) (fun e => ?_)⟩
      rcases hab with ⟨ha, hb⟩ | ⟨ha, hb⟩
      · refine ⟨_, rfl, _, _, _, _, _, rfl, .ty _, .base (.lst hb), kit_ty (r := false) (by decide +kernel), _, rfl, iteF ⟨_, rfl, _, _, _, _, _, rfl, .ty _, .base (.lst ha), kit_ty (r := false) (by decide +kernel), _, rfl, iteF ⟨_, rfl, two_line, fun p np => ?_⟩⟩⟩
        have s1 := same_upd (o := .tup [V.ty "int", V.ty "str"]) np
        refine ⟨_, p, _, _, _, _, rfl, upd_same, .cons (.ty _) (.cons (.ty _) .nil), .base (.lst (s1 _ _ hb)), kit2 (r1 := false) (r2 := false) (by decide +kernel) (by decide +kernel), _, rfl, iteF ?_⟩
        generalize upd H p (.tup [V.ty "int", V.ty "str"]) = H2 at s1
        have ha2 := s1 _ _ ha
        have hb2 := s1 _ _ hb
        refine ⟨_, rfl, _, _, _, _, _, rfl, .ty _, .base (.lst hb2), kit_ty (r := false) (by decide +kernel), _, rfl, iteF ?_⟩
        refine ⟨_, rfl, _, _, _, _, _, rfl, .ty _, .base (.lst hb2), kit_ty (r := true) (by decide +kernel), _, rfl, _, _, _, _, _, rfl, .ty _, .base (.lst ha2), kit_ty (r := true) (by decide +kernel), rfl, _, rfl, iteF ?_⟩
        refine ⟨_, rfl, _, _, _, _, _, rfl, .ty _, .base (.lst hb2), kit_ty (r := false) (by decide +kernel), _, rfl, _, _, _, _, _, rfl, .ty _, .base (.lst ha2), kit_ty (r := false) (by decide +kernel), rfl, _, rfl, iteF ?_⟩
        refine ⟨_, rfl, a, _, rfl, .inl (SqL.of ha2), _, rfl, b, _, rfl, .inl (SqL.of hb2), rfl, _, rfl, ?_⟩
        rw [hlen, decide_eq_true rfl]
        refine iteT ⟨_, rfl, _, rfl, a, b, xs, ys, rfl, .inl ⟨SqL.of ha2, SqL.of hb2, fun D nD => ?_⟩⟩
        refine ⟨fun i m H' => i + m = xs.length ∧ Same H2 H' ∧ H' D = some (.lst ((List.replicate i true).map V.bl)), ⟨xs.length, by omega, same_upd nD, upd_same⟩, fun i m H' hW => ?_⟩
        obtain ⟨hm, s2, hD⟩ := hW
        by_cases hi : i < xs.length
        · have hx : xs[i]? = some xs[i] := List.getElem?_eq_getElem hi
          have hy : ys[i]? = some ys[i] := List.getElem?_eq_getElem (by omega)
          refine .inr ⟨⟨_, _, _, _, SqL.of (s2 _ _ ha2), SqL.of (s2 _ _ hb2), hx, hy⟩, fun H'' => Same H2 H'' ∧ H'' D = some (.lst ((List.replicate (i + 1) true).map V.bl)), fun H'' h => ⟨m - 1, by omega, by omega, h⟩, fun v H'' hv => ?_⟩
          obtain ⟨T', x1, y1, rfl, nT, rfl, f1, f2⟩ := hv
          have ex : x1 = xs[i] := Option.some.inj ((f1 _ (SqL.of (s2 _ _ ha2))).symm.trans hx)
          have ey : y1 = ys[i] := Option.some.inj ((f2 _ (SqL.of (s2 _ _ hb2))).symm.trans hy)
          have s3 : Same H' (upd H' T' (.tup [x1, y1])) := same_upd nT
          refine ⟨T', [x1, y1], rfl, .inl (.inl upd_same), rfl, x1, [y1], rfl, y1, [], rfl, rfl, rfl, ?_⟩
          refine ⟨_, rfl, _, rfl, x1, y1, rfl, ?_, fun H4 s4 => ⟨_, s4 _ _ (s3 _ _ hD), ?_, ?_, ?_⟩⟩
          · subst ex ey
            exact Eqd.mono (s1.trans (s2.trans s3)) n' (hsub i _ _ hx hy)
          · rw [List.length_map, List.length_replicate]
            exact small1000 (by omega)
          · intro c o e
            rw [upd_ne (ne_of_none e nD)]
            exact s4 _ _ (s3 _ _ (s2 _ _ e))
          · rw [upd_same, List.replicate_succ', List.map_append]
            rfl
        · have ei : i = xs.length := by omega
          subst ei
          refine .inl ⟨⟨xs, ys, SqL.of (s2 _ _ ha2), SqL.of (s2 _ _ hb2), .inl (Nat.le_refl _)⟩, ?_⟩
          refine ⟨D, _, rfl, .inl (.inl hD), ?_⟩
          have all : ∀ k : Nat, (List.replicate k true).all id = true := fun k => by
            rw [List.all_replicate]
            split <;> rfl
          rw [all]
          exact q _ (s1.trans s2)
      · refine ⟨_, rfl, _, _, _, _, _, rfl, .ty _, .base (.tup hb), kit_ty (r := false) (by decide +kernel), _, rfl, iteF ⟨_, rfl, _, _, _, _, _, rfl, .ty _, .base (.tup ha), kit_ty (r := false) (by decide +kernel), _, rfl, iteF ⟨_, rfl, two_line, fun p np => ?_⟩⟩⟩
        have s1 := same_upd (o := .tup [V.ty "int", V.ty "str"]) np
        refine ⟨_, p, _, _, _, _, rfl, upd_same, .cons (.ty _) (.cons (.ty _) .nil), .base (.tup (s1 _ _ hb)), kit2 (r1 := false) (r2 := false) (by decide +kernel) (by decide +kernel), _, rfl, iteF ?_⟩
        generalize upd H p (.tup [V.ty "int", V.ty "str"]) = H2 at s1
        have ha2 := s1 _ _ ha
        have hb2 := s1 _ _ hb
        refine ⟨_, rfl, _, _, _, _, _, rfl, .ty _, .base (.tup hb2), kit_ty (r := false) (by decide +kernel), _, rfl, iteF ?_⟩
        refine ⟨_, rfl, _, _, _, _, _, rfl, .ty _, .base (.tup hb2), kit_ty (r := false) (by decide +kernel), _, rfl, _, _, _, _, _, rfl, .ty _, .base (.tup ha2), kit_ty (r := false) (by decide +kernel), rfl, _, rfl, iteF ?_⟩
        refine ⟨_, rfl, _, _, _, _, _, rfl, .ty _, .base (.tup hb2), kit_ty (r := true) (by decide +kernel), _, rfl, _, _, _, _, _, rfl, .ty _, .base (.tup ha2), kit_ty (r := true) (by decide +kernel), rfl, _, rfl, iteF ?_⟩
        refine ⟨_, rfl, a, _, rfl, .inr (SqT.of ha2), _, rfl, b, _, rfl, .inr (SqT.of hb2), rfl, _, rfl, ?_⟩
        rw [hlen, decide_eq_true rfl]
        refine iteT ⟨_, rfl, _, rfl, a, b, xs, ys, rfl, .inr ⟨SqT.of ha2, SqT.of hb2, fun D nD => ?_⟩⟩
        refine ⟨fun i m H' => i + m = xs.length ∧ Same H2 H' ∧ H' D = some (.lst ((List.replicate i true).map V.bl)), ⟨xs.length, by omega, same_upd nD, upd_same⟩, fun i m H' hW => ?_⟩
        obtain ⟨hm, s2, hD⟩ := hW
        by_cases hi : i < xs.length
        · have hx : xs[i]? = some xs[i] := List.getElem?_eq_getElem hi
          have hy : ys[i]? = some ys[i] := List.getElem?_eq_getElem (by omega)
          refine .inr ⟨⟨_, _, _, _, SqT.of (s2 _ _ ha2), SqT.of (s2 _ _ hb2), hx, hy⟩, fun H'' => Same H2 H'' ∧ H'' D = some (.lst ((List.replicate (i + 1) true).map V.bl)), fun H'' h => ⟨m - 1, by omega, by omega, h⟩, fun v H'' hv => ?_⟩
          obtain ⟨T', x1, y1, rfl, nT, rfl, f1, f2⟩ := hv
          have ex : x1 = xs[i] := Option.some.inj ((f1 _ (SqT.of (s2 _ _ ha2))).symm.trans hx)
          have ey : y1 = ys[i] := Option.some.inj ((f2 _ (SqT.of (s2 _ _ hb2))).symm.trans hy)
          have s3 : Same H' (upd H' T' (.tup [x1, y1])) := same_upd nT
          refine ⟨T', [x1, y1], rfl, .inl (.inl upd_same), rfl, x1, [y1], rfl, y1, [], rfl, rfl, rfl, ?_⟩
          refine ⟨_, rfl, _, rfl, x1, y1, rfl, ?_, fun H4 s4 => ⟨_, s4 _ _ (s3 _ _ hD), ?_, ?_, ?_⟩⟩
          · subst ex ey
            exact Eqd.mono (s1.trans (s2.trans s3)) n' (hsub i _ _ hx hy)
          · rw [List.length_map, List.length_replicate]
            exact small1000 (by omega)
          · intro c o e
            rw [upd_ne (ne_of_none e nD)]
            exact s4 _ _ (s3 _ _ (s2 _ _ e))
          · rw [upd_same, List.replicate_succ', List.map_append]
            rfl
        · have ei : i = xs.length := by omega
          subst ei
          refine .inl ⟨⟨xs, ys, SqT.of (s2 _ _ ha2), SqT.of (s2 _ _ hb2), .inl (Nat.le_refl _)⟩, ?_⟩
          refine ⟨D, _, rfl, .inl (.inl hD), ?_⟩
          have all : ∀ k : Nat, (List.replicate k true).all id = true := fun k => by
            rw [List.all_replicate]
            split <;> rfl
          rw [all]
          exact q _ (s1.trans s2)
theorem ok_same (T : Txt K mg fa fd) : ∀ n : Nat, FnOk P w K mg base CX0 (n + 1) (fa 8) (fd 8) ["_law_found", "_law_due"] (spS n)
  | 0 => none_of_false T.F_same sc_same
  | n + 1 => same_step T n (ok_same T n)
end
section
variable {P : Program} {w : World} {K : PySem.W.Frag} {mg : Str → Option Value} {base : Heap} {fa : Nat → Addr} {fd : Nat → FuncData}
/-! ### calls of defs with a star -/
section
variable {X : Cx} {CX : CXT} {k : Nat} {f : Addr} {sp : Sp} {E : XK} {x : Str} {p pos : Pos} {e : Expr} {es : List Expr} {t : TA}
theorem pe_callR (F : FnR X.prog X.w X.K X.mg X.base CX k f sp) (hr : Room k X.A) (hg : Gl X x) (hm : X.mg x = some (.ref f)) (hk : PySem.W.keepIn X.K (.ref f) = true) (hx : Passes CX X E) (ha : PA X (e :: es) t)
    (hd : (x == ("__debug__" : Str)) = false := by decide) (he : starEach (e :: es) X.env = (false, eval e X.env) :: starEach es X.env := by rfl) (hpl : (backTo pos (starEach es X.env)).any (·.1) = false := by rfl) :
    PE X (.Call (.Name x p) (e :: es) [] pos) (fun σ H Q => t σ H fun vs H1 => sp vs H1 Q E) :=
  ⟨fun pins s σ H Q I h => wpAny_Call_Name_kw (ld_glob I hg hm
    (PySem.W.callWith_K (h₀ := X.base) I.ok.mod.kin hk (thn (ha.run pos pins s σ H _ I h) fun us s1 ⟨vs, H1, I1, r, q⟩ => ⟨I1.kIn, wpAny_call (run_fnR F hr hx I1 r q)⟩) he hpl) hd)⟩
theorem pe_callR0 (F : FnR X.prog X.w X.K X.mg X.base CX k f sp) (hr : Room k X.A) (hg : Gl X x) (hm : X.mg x = some (.ref f)) (hk : PySem.W.keepIn X.K (.ref f) = true) (hx : Passes CX X E) (hd : (x == ("__debug__" : Str)) = false := by decide) :
    PE X (.Call (.Name x p) [] [] pos) (fun σ H Q => sp [] H Q E) :=
  ⟨fun pins s σ H Q I h => wpAny_Call_Name_kw (ld_glob I hg hm (PySem.W.callWith_K0 I.kIn hk (wpAny_call (run_fnR F hr hx I .nil h))) hd)⟩
end
/-! ### fractions and their order -/
abbrev OF := Option (Addr × (Int × Int))
def vO : OF → V
  | none => .non
  | some x => .ref x.1
def Fr (H : Hp) (p : Addr) (f : Int × Int) : Prop := H p = some (.tup [.int f.1, .int f.2])
def SmF (f : Int × Int) : Prop := -(2 ^ 64) < f.1 ∧ f.1 < 2 ^ 64
def okO (H : Hp) : OF → Prop
  | none => True
  | some x => Fr H x.1 x.2 ∧ SmF x.2
theorem okO.same {H H' : Hp} (s : Same H H') {o : OF} (h : okO H o) : okO H' o := by
  cases o with
  | none => trivial
  | some x => exact ⟨s _ _ h.1, h.2⟩
def ltF (f g : Int × Int) : Bool := decide (f.1 * g.2 < g.1 * f.2)
def spUnder : Sp := fun vs H Q _ => ∃ (p q : Addr) (f g : Int × Int), vs = [.ref p, .ref q] ∧ Fr H p f ∧ Fr H q g ∧ SmF f ∧ SmF g ∧ Q (.bl (ltF f g)) H
theorem t0 {x y : V} : atI [x, y] 0 = some x := rfl
theorem t1 {x y : V} : atI [x, y] 1 = some y := rfl
theorem ok_under (T : Txt K mg fa fd) : FnOk P w K mg base CX0 1 (fa 11) (fd 11) ["_law_one", "_law_two"] spUnder := by
  refine T.F_under.ok sc_under (fun vs H Q E h => ?_) (fun cdv A outer s H vs Q E hr h => ?_)
  · obtain ⟨p, q, f, g, rfl, _⟩ := h
    rfl
  · obtain ⟨p, r, f, g, rfl, hp, hr', sf, sg, q⟩ := h
    exact ⟨_, (pss_one (ps_ret (pe_cmpR op_lt (pe_op op_mul (pe_ix ix_tup (pv 0) pe_int (fun _ _ => rfl)) (pe_ix ix_tup (pv 1) pe_int (fun _ _ => rfl))) (pe_op op_mul (pe_ix ix_tup (pv 1) pe_int (fun _ _ => rfl)) (pe_ix ix_tup (pv 0) pe_int (fun _ _ => rfl))) (nomark _)))), _, rfl, p, _, _, _, rfl, rfl, SqT.of hp, t0, _, rfl, r, _, _, _, rfl, rfl, SqT.of hr', t1, _, _, rfl, rfl, .inl sf,
      _, rfl, r, _, _, _, rfl, rfl, SqT.of hr', t0, _, rfl, p, _, _, _, rfl, rfl, SqT.of hp, t1, _, _, rfl, rfl, .inl sg, _, _, rfl, rfl, q⟩
theorem ok_p_is_less (T : Txt K mg fa fd) : FnOk P w K mg base CX0 1 (fa 1) (fd 1) ["one", "other"] spUnder := by
  refine T.F_p_is_less.ok sc_p_is_less (fun vs H Q E h => ?_) (fun cdv A outer s H vs Q E hr h => ?_)
  · obtain ⟨p, q, f, g, rfl, _⟩ := h
    rfl
  · obtain ⟨p, r, f, g, rfl, hp, hr', sf, sg, q⟩ := h
    exact ⟨_, (pss_one (ps_ret (pe_cmpR op_lt (pe_op op_mul (pe_ix ix_tup (pv 0) pe_int (fun _ _ => rfl)) (pe_ix ix_tup (pv 1) pe_int (fun _ _ => rfl))) (pe_op op_mul (pe_ix ix_tup (pv 1) pe_int (fun _ _ => rfl)) (pe_ix ix_tup (pv 0) pe_int (fun _ _ => rfl))) (nomark _)))), _, rfl, p, _, _, _, rfl, rfl, SqT.of hp, t0, _, rfl, r, _, _, _, rfl, rfl, SqT.of hr', t1, _, _, rfl, rfl, .inl sf,
      _, rfl, r, _, _, _, rfl, rfl, SqT.of hr', t0, _, rfl, p, _, _, _, rfl, rfl, SqT.of hp, t1, _, _, rfl, rfl, .inl sg, _, _, rfl, rfl, q⟩
/-- the better one of what is found and a value -/
def better : Bool → Int × Int → Int × Int → Bool
  | true, f, g => ltF g f
  | false, f, g => ltF f g
def best1 (top : Bool) (found value : OF) : OF := match value with
  | none => found
  | some x => match found with
    | none => some x
    | some y => if better top x.2 y.2 = true then some x else some y
def bestL (top : Bool) (xs : List OF) : OF := xs.foldl (best1 top) none
theorem best1_ok {H : Hp} {top : Bool} {a b : OF} (ha : okO H a) (hb : okO H b) : okO H (best1 top a b) := by
  cases b with
  | none => exact ha
  | some x =>
    cases a with
    | none => exact hb
    | some y =>
      show okO H (if better top x.2 y.2 = true then some x else some y)
      by_cases h : better top x.2 y.2 = true
      · rw [if_pos h]
        exact hb
      · rw [if_neg h]
        exact ha
def spPick (f : Int × Int → Int × Int → Bool) : Sp := fun vs H Q _ => ∃ (x y : Addr × (Int × Int)), vs = [.ref x.1, .ref y.1] ∧ okO H (some x) ∧ okO H (some y) ∧ Q (.ref (if f x.2 y.2 = true then y.1 else x.1)) H
theorem ok_lesser (T : Txt K mg fa fd) : FnOk P w K mg base CX0 2 (fa 12) (fd 12) ["_law_one", "_law_two"] (spPick fun f g => ltF g f) := by
  refine T.F_lesser.ok sc_lesser (fun vs H Q E h => ?_) (fun cdv A outer s H vs Q E hr h => ?_)
  · obtain ⟨x, y, rfl, _⟩ := h
    rfl
  · obtain ⟨x, y, rfl, hx, hy, q⟩ := h
    refine ⟨_, (pss_one (ps_ret (pe_ifExp (pt_val (pe_call (ok_under T) (hr.mono (by decide)) (by rfl) T.g_under T.F_under.kp T.b_under .nil pass0 (pa_cons (pv 1) (pa_cons (pv 0) pa_nil)))) (pv 1) (pv 0)))), _, rfl, _, rfl, _, _, _, _, rfl, hy.1, hx.1, hy.2, hx.2, _, rfl, ?_⟩
    have q : Q (.ref (if ltF y.2 x.2 = true then y.1 else x.1)) H := q
    cases e : ltF y.2 x.2 with
    | true => rw [e, if_pos rfl] at q; exact iteT ⟨_, rfl, q⟩
    | false => rw [e, if_neg Bool.false_ne_true] at q; exact iteF ⟨_, rfl, q⟩
theorem ok_bigger (T : Txt K mg fa fd) : FnOk P w K mg base CX0 2 (fa 13) (fd 13) ["_law_one", "_law_two"] (spPick fun f g => ltF f g) := by
  refine T.F_bigger.ok sc_bigger (fun vs H Q E h => ?_) (fun cdv A outer s H vs Q E hr h => ?_)
  · obtain ⟨x, y, rfl, _⟩ := h
    rfl
  · obtain ⟨x, y, rfl, hx, hy, q⟩ := h
    refine ⟨_, (pss_one (ps_ret (pe_ifExp (pt_val (pe_call (ok_under T) (hr.mono (by decide)) (by rfl) T.g_under T.F_under.kp T.b_under .nil pass0 (pa_cons (pv 0) (pa_cons (pv 1) pa_nil)))) (pv 1) (pv 0)))), _, rfl, _, rfl, _, _, _, _, rfl, hx.1, hy.1, hx.2, hy.2, _, rfl, ?_⟩
    have q : Q (.ref (if ltF x.2 y.2 = true then y.1 else x.1)) H := q
    cases e : ltF x.2 y.2 with
    | true => rw [e, if_pos rfl] at q; exact iteT ⟨_, rfl, q⟩
    | false => rw [e, if_neg Bool.false_ne_true] at q; exact iteF ⟨_, rfl, q⟩
theorem bestL_ok {H : Hp} {top : Bool} : ∀ {xs : List OF} {a : OF}, okO H a → (∀ x ∈ xs, okO H x) → okO H (xs.foldl (best1 top) a)
  | [], _, ha, _ => ha
  | x :: r, a, ha, h => bestL_ok (xs := r) (best1_ok ha (h x (List.mem_cons_self))) fun y hy => h y (List.mem_cons_of_mem _ hy)
theorem fold_take {top : Bool} {xs : List OF} {i : Nat} {x : OF} (h : xs[i]? = some x) : (xs.take (i + 1)).foldl (best1 top) none = best1 top ((xs.take i).foldl (best1 top) none) x := by
  rw [List.take_add_one, h, List.foldl_append]
  rfl
theorem take_ok {H : Hp} {top : Bool} {xs : List OF} (h : ∀ x ∈ xs, okO H x) (i : Nat) : okO H ((xs.take i).foldl (best1 top) none) := bestL_ok trivial fun x hx => h x (List.mem_of_mem_take hx)
theorem vO_none {o : OF} (h : vO o = .non) : o = none := by
  cases o with
  | none => rfl
  | some x => cases h
def spBest : Sp := fun vs H Q _ => ∃ (a : Addr) (xs : List OF) (top : Bool), vs = [.ref a, .bl top] ∧ H a = some (.lst (xs.map vO)) ∧ (∀ x ∈ xs, okO H x) ∧ Q (vO (bestL top xs)) H
theorem ok_best (T : Txt K mg fa fd) : FnOk P w K mg base CX0 3 (fa 15) (fd 15) ["_law_values", "_law_is_top"] spBest := by
  refine T.F_best.ok sc_best (fun vs H Q E h => ?_) (fun cdv A outer s H vs Q E hr h => ?_)
  · obtain ⟨a, xs, top, rfl, _⟩ := h
    rfl
  · obtain ⟨a, xs, top, rfl, ha, hok, q⟩ := h
    refine ⟨_, (pss_cons (ps_set (i := 2) sc_best.nd rfl (.inl rfl) pe_non)
      (pss_cons (ps_for PassesOwn.never rfl (pi_list (pv 0)) (pg_name (i := 3) sc_best.nd rfl (.inl rfl)) (pss_one (ps_if (pt_cmpR op_notN (pv 3) pe_non (nomark _)) (pss_one (ps_if (pt_cmpR op_isN (pv 2) pe_non (nomark _)) (pss_one (ps_set (i := 2) sc_best.nd rfl (.inl rfl) (pv 3))) (pss_one (ps_set (i := 2) sc_best.nd rfl (.inl rfl) (pe_ifExp (pt_val (pv 1)) (pe_call (ok_bigger T) (hr.mono (by decide)) (by rfl) T.g_bigger T.F_bigger.kp T.b_bigger .nil pass0 (pa_cons (pv 2) (pa_cons (pv 3) pa_nil))) (pe_call (ok_lesser T) (hr.mono (by decide)) (by rfl) T.g_lesser T.F_lesser.kp T.b_lesser .nil pass0 (pa_cons (pv 2) (pa_cons (pv 3) pa_nil)))))))) pss_nil)))
      (pss_one (ps_ret (pv 2))))), ?_⟩
    refine ⟨_, rfl, a, rfl, ⟨_, SqL.of ha⟩, for_list (K := K) (a := a) (xs := xs.map vO) (fun i σ H2 => H2 = H ∧ ∃ y, σ = [some (.ref a), some (.bl top), some (vO ((xs.take i).foldl (best1 top) none)), y]) ?_ (fun i σ H2 _ hp => by rw [hp.1]; exact SqL.of ha) (fun i x σ H2 hx hp => ?_) (fun σ H2 hp => ?_)⟩
    · exact ⟨rfl, _, rfl⟩
    · obtain ⟨rfl, y, rfl⟩ := hp
      rw [List.getElem?_map] at hx
      obtain ⟨o, ho, rfl⟩ := Option.map_eq_some_iff.mp hx
      have hoo := hok o (List.mem_of_getElem? ho)
      have hf := take_ok (top := top) hok i
      have e2 := fold_take (top := top) ho
      generalize (xs.take i).foldl (best1 top) none = fnd at hf e2
      refine ⟨_, rfl, rfl, _, rfl, ite2 (fun e => ?_) (fun e => ?_)⟩
      · cases o with
        | none => exact absurd e (by decide)
        | some x =>
          refine ⟨_, rfl, rfl, _, rfl, ite2 (fun e => ?_) (fun e => ?_)⟩
          · have e3 := vO_none (of_decide_eq_true e)
            subst e3
            refine ⟨_, rfl, rfl, some (vO (some x)), ?_⟩
            rw [e2]
            rfl
          · cases fnd with
            | none => exact absurd (decide_eq_true rfl) e
            | some y =>
              refine ⟨_, rfl, _, rfl, ?_⟩
              cases top with
              | true =>
                refine iteT ⟨_, rfl, _, rfl, _, _, rfl, hf, hoo, rfl, some (vO (some x)), ?_⟩
                rw [e2]
                show _ = [_, _, some (vO (if ltF y.2 x.2 = true then some x else some y)), some (vO (some x))]
                split <;> rfl
              | false =>
                refine iteF ⟨_, rfl, _, rfl, _, _, rfl, hf, hoo, rfl, some (vO (some x)), ?_⟩
                rw [e2]
                show _ = [_, _, some (vO (if ltF x.2 y.2 = true then some x else some y)), some (vO (some x))]
                split <;> rfl
      · cases o with
        | none =>
          refine ⟨rfl, some (vO none), ?_⟩
          rw [e2]
          rfl
        | some x => exact absurd (by rfl) e
    · obtain ⟨rfl, y, rfl⟩ := hp
      rw [List.length_map, List.take_length]
      exact ⟨_, rfl, q⟩
end
section
variable {P : Program} {w : World} {K : PySem.W.Frag} {mg : Str → Option Value} {base : Heap} {fa : Nat → Addr} {fd : Nat → FuncData}
theorem star_ok {x : Str} {st : Stmt} {f : Addr} {fdd : FuncData} {N : List Str} {pv : Str} {k : Nat} {sp : Sp} (F : Fun K x x st f fdd) (S : FnScope N [pv] (defScope st))
    (hb : ∀ (kV doc pm : Value) (an : Option Addr) (cdv ct : Value) (rest : List Value), bindArgs (PySem.W.fnOf x x (defArgs st) (defBody st) (defScope st) .none kV doc pm an cdv ct) ⟨rest, []⟩ = (newTuple rest >>= fun t => pure [(pv, t)]))
    (hbody : ∀ (cdv : Value) (A : Around) (outer : List Env) (s : Shared) (H : Hp) (vs : List V) (Q : VK) (E : XK), Room k (A.deeper (envOfC x (defScope st) s.heap.objs.size f cdv)) → sp vs H Q E →
      ∃ t, PSs (cxOf CX0 P w K mg base N x (defScope st) f cdv A outer s H E).nox (defBody st) t ∧ t { nx := fun _ H' => Q .non H', rt := Q } (start N vs) H) :
    FnR P w K mg base CX0 (k + 1) f (fun vs H Q E => vs.length ≤ sizeLine ∧ ∀ p, H p = none → sp [V.ref p] (upd H p (.tup vs)) Q E) := by
  obtain ⟨oc, od, kV, doc, pm, an, cdv, ct, osl, rfl, lk, hcd⟩ := F.ex
  refine FnR.imp (StX.fn_star (ps := []) (pv := pv) (sp := sp) lk hcd S StX.cxUp_none (fun us rest hl => ?_) fun A outer s H vs Q E hr hsp => ?_) fun vs H Q E h => ⟨[], vs, rfl, rfl, h.1, h.2⟩
  · cases us with
    | nil => exact hb kV doc pm an cdv ct rest
    | cons _ _ => cases hl
  · obtain ⟨t, h, q⟩ := hbody cdv A outer s H vs Q E hr hsp
    exact ⟨t, h.nox, q⟩
def spIn (top : Bool) : Sp := fun vs H Q _ => ∃ (p : Addr) (xs : List OF), vs = [.ref p] ∧ H p = some (.tup (xs.map vO)) ∧ (∀ x ∈ xs, okO H x) ∧ Q (vO (bestL top xs)) H
def spStar (top : Bool) : Sp := fun vs H Q _ => ∃ xs : List OF, vs = xs.map vO ∧ xs.length ≤ 1000 ∧ (∀ x ∈ xs, okO H x) ∧ ∀ H', Same H H' → Q (vO (bestL top xs)) H'
theorem star_sp {top : Bool} {f : Addr} {k : Nat} (h : FnR P w K mg base CX0 k f (fun vs H Q E => vs.length ≤ sizeLine ∧ ∀ p, H p = none → spIn top [V.ref p] (upd H p (.tup vs)) Q E)) : FnR P w K mg base CX0 k f (spStar top) :=
  h.imp fun vs H Q E ⟨xs, e, l, ok, q⟩ => by
    subst e
    refine ⟨?_, fun p np => ⟨p, xs, rfl, upd_same, fun x hx => (ok x hx).same (same_upd np), q _ (same_upd np)⟩⟩
    rw [List.length_map]
    exact Nat.le_of_lt (small1000 l)
theorem ok_p_least (T : Txt K mg fa fd) : FnR P w K mg base CX0 2 (fa 2) (spStar false) := by
  refine star_sp (star_ok T.F_p_least sc_p_least (fun _ _ _ _ _ _ rest => by cases rest <;> rfl) fun cdv A outer s H vs Q E hr h => ?_)
  obtain ⟨p, xs, rfl, hp, hok, q⟩ := h
  refine ⟨_, (pss_cons (ps_set (i := 1) sc_p_least.nd rfl (.inl rfl) pe_non)
      (pss_cons (ps_for PassesOwn.never rfl (pi_tup (pv 0)) (pg_name (i := 2) sc_p_least.nd rfl (.inl rfl)) (pss_one (ps_if (PW.pt (pw_and (pt_cmpR op_notN (pv 2) pe_non (nomark _)) (pw_and1 (PW.pt (pw_or (pt_cmpR op_isN (pv 1) pe_non (nomark _)) (pw_or1 (pt_val (pe_call (ok_p_is_less T) (hr.mono (by decide)) (by rfl) T.g_p_is_less T.F_p_is_less.kp T.b_p_is_less .nil pass0 (pa_cons (pv 2) (pa_cons (pv 1) pa_nil)))))))))) (pss_one (ps_set (i := 1) sc_p_least.nd rfl (.inl rfl) (pv 2))) pss_nil)))
      (pss_one (ps_ret (pv 1))))), ?_⟩
  refine ⟨_, rfl, p, rfl, ⟨_, SqT.of hp⟩, for_tup (K := K) (a := p) (xs := xs.map vO) (fun i σ H2 => H2 = H ∧ ∃ y, σ = [some (.ref p), some (vO ((xs.take i).foldl (best1 false) none)), y]) ?_ (fun i σ H2 _ hp2 => by rw [hp2.1]; exact SqT.of hp) (fun i x σ H2 hx hp2 => ?_) (fun σ H2 hp2 => ?_)⟩
  · exact ⟨rfl, _, rfl⟩
  · obtain ⟨rfl, y, rfl⟩ := hp2
    rw [List.getElem?_map] at hx
    obtain ⟨o, ho, rfl⟩ := Option.map_eq_some_iff.mp hx
    have hoo := hok o (List.mem_of_getElem? ho)
    have hf := take_ok (top := false) hok i
    have e2 := fold_take (top := false) ho
    generalize (xs.take i).foldl (best1 false) none = fnd at hf e2
    cases o with
    | none =>
      refine ⟨_, rfl, rfl, _, rfl, iteF (iteF ⟨rfl, some (vO none), ?_⟩)⟩
      rw [e2]
      rfl
    | some x =>
      refine ⟨_, rfl, rfl, _, rfl, iteT ⟨_, rfl, rfl, _, rfl, ?_⟩⟩
      cases fnd with
      | none =>
        refine iteT (iteT ⟨_, rfl, rfl, some (vO (some x)), ?_⟩)
        rw [e2]
        rfl
      | some y =>
        refine iteF ⟨_, rfl, _, rfl, _, _, _, _, rfl, hoo.1, hf.1, hoo.2, hf.2, _, rfl, ?_⟩
        have e3 : best1 false (some y) (some x) = if ltF x.2 y.2 = true then some x else some y := rfl
        rw [e3] at e2
        cases e : ltF x.2 y.2 with
        | true =>
          rw [e, if_pos rfl] at e2
          refine iteT ⟨_, rfl, rfl, some (vO (some x)), ?_⟩
          rw [e2]
          rfl
        | false =>
          rw [e, if_neg Bool.false_ne_true] at e2
          refine iteF ⟨rfl, some (vO (some x)), ?_⟩
          rw [e2]
          rfl
  · obtain ⟨rfl, y, rfl⟩ := hp2
    rw [List.length_map, List.take_length]
    exact ⟨_, rfl, q⟩
theorem ok_p_greatest (T : Txt K mg fa fd) : FnR P w K mg base CX0 2 (fa 3) (spStar true) := by
  refine star_sp (star_ok T.F_p_greatest sc_p_greatest (fun _ _ _ _ _ _ rest => by cases rest <;> rfl) fun cdv A outer s H vs Q E hr h => ?_)
  obtain ⟨p, xs, rfl, hp, hok, q⟩ := h
  refine ⟨_, (pss_cons (ps_set (i := 1) sc_p_greatest.nd rfl (.inl rfl) pe_non)
      (pss_cons (ps_for PassesOwn.never rfl (pi_tup (pv 0)) (pg_name (i := 2) sc_p_greatest.nd rfl (.inl rfl)) (pss_one (ps_if (PW.pt (pw_and (pt_cmpR op_notN (pv 2) pe_non (nomark _)) (pw_and1 (PW.pt (pw_or (pt_cmpR op_isN (pv 1) pe_non (nomark _)) (pw_or1 (pt_val (pe_call (ok_p_is_less T) (hr.mono (by decide)) (by rfl) T.g_p_is_less T.F_p_is_less.kp T.b_p_is_less .nil pass0 (pa_cons (pv 1) (pa_cons (pv 2) pa_nil)))))))))) (pss_one (ps_set (i := 1) sc_p_greatest.nd rfl (.inl rfl) (pv 2))) pss_nil)))
      (pss_one (ps_ret (pv 1))))), ?_⟩
  refine ⟨_, rfl, p, rfl, ⟨_, SqT.of hp⟩, for_tup (K := K) (a := p) (xs := xs.map vO) (fun i σ H2 => H2 = H ∧ ∃ y, σ = [some (.ref p), some (vO ((xs.take i).foldl (best1 true) none)), y]) ?_ (fun i σ H2 _ hp2 => by rw [hp2.1]; exact SqT.of hp) (fun i x σ H2 hx hp2 => ?_) (fun σ H2 hp2 => ?_)⟩
  · exact ⟨rfl, _, rfl⟩
  · obtain ⟨rfl, y, rfl⟩ := hp2
    rw [List.getElem?_map] at hx
    obtain ⟨o, ho, rfl⟩ := Option.map_eq_some_iff.mp hx
    have hoo := hok o (List.mem_of_getElem? ho)
    have hf := take_ok (top := true) hok i
    have e2 := fold_take (top := true) ho
    generalize (xs.take i).foldl (best1 true) none = fnd at hf e2
    cases o with
    | none =>
      refine ⟨_, rfl, rfl, _, rfl, iteF (iteF ⟨rfl, some (vO none), ?_⟩)⟩
      rw [e2]
      rfl
    | some x =>
      refine ⟨_, rfl, rfl, _, rfl, iteT ⟨_, rfl, rfl, _, rfl, ?_⟩⟩
      cases fnd with
      | none =>
        refine iteT (iteT ⟨_, rfl, rfl, some (vO (some x)), ?_⟩)
        rw [e2]
        rfl
      | some y =>
        refine iteF ⟨_, rfl, _, rfl, _, _, _, _, rfl, hf.1, hoo.1, hf.2, hoo.2, _, rfl, ?_⟩
        have e3 : best1 true (some y) (some x) = if ltF y.2 x.2 = true then some x else some y := rfl
        rw [e3] at e2
        cases e : ltF y.2 x.2 with
        | true =>
          rw [e, if_pos rfl] at e2
          refine iteT ⟨_, rfl, rfl, some (vO (some x)), ?_⟩
          rw [e2]
          rfl
        | false =>
          rw [e, if_neg Bool.false_ne_true] at e2
          refine iteF ⟨rfl, some (vO (some x)), ?_⟩
          rw [e2]
          rfl
  · obtain ⟨rfl, y, rfl⟩ := hp2
    rw [List.length_map, List.take_length]
    exact ⟨_, rfl, q⟩
end
section
variable {P : Program} {w : World} {K : PySem.W.Frag} {mg : Str → Option Value} {base : Heap} {fa : Nat → Addr} {fd : Nat → FuncData}
theorem lowG_ne {u v : Int} (h : v ≠ 0) : lowG u v ≠ 0 := by
  have h1 := gcd_pos (u := u) h
  unfold lowG
  split <;> omega
theorem lowG_dvd_left (u v : Int) : lowG u v ∣ u := by
  unfold lowG
  split
  · exact Int.neg_dvd.mpr (Int.gcd_dvd_left _ _)
  · exact (Int.gcd_dvd_left _ _)
theorem lowG_dvd_right (u v : Int) : lowG u v ∣ v := by
  unfold lowG
  split
  · exact Int.neg_dvd.mpr (Int.gcd_dvd_right _ _)
  · exact (Int.gcd_dvd_right _ _)
theorem lowT_mul {u v : Int} (h : v ≠ 0) : u = lowG u v * lowT u v := by
  obtain ⟨t, ht⟩ := lowG_dvd_left u v
  unfold lowT
  generalize lowG u v = g at ht ⊢
  have hg : g ≠ 0 ∨ g = 0 := by omega
  rcases hg with hg | hg
  · rw [ht, Int.mul_fdiv_cancel_left _ hg]
  · rw [ht, hg, Int.zero_mul, Int.zero_mul]
theorem lowT_abs {u v : Int} (h : v ≠ 0) : (lowT u v).natAbs ≤ u.natAbs := by
  have e := lowT_mul (u := u) h
  have h2 : u.natAbs = (lowG u v).natAbs * (lowT u v).natAbs := by
    rw [← Int.natAbs_mul, ← e]
  have h3 : 1 ≤ (lowG u v).natAbs := by
    have := lowG_ne (u := u) h
    omega
  calc (lowT u v).natAbs = 1 * (lowT u v).natAbs := (Nat.one_mul _).symm
    _ ≤ (lowG u v).natAbs * (lowT u v).natAbs := Nat.mul_le_mul_right _ h3
    _ = u.natAbs := h2.symm
theorem small_sm {t d : Int} (h : t.natAbs ≤ 100000) : SmF (t, d) := by
  constructor
  · show -(2 ^ 64) < t
    omega
  · show t < 2 ^ 64
    omega
theorem small_log2 {v : Int} (h : v.natAbs ≤ 8000) : v.natAbs.log2 < 9000 := Nat.lt_of_le_of_lt (Nat.log2_le_self _) (by omega)
theorem okO.but {H H' : Hp} {a c : Addr} {o : OF} (hF : FeedOk H a c) (b : But a H H') (h : okO H o) : okO H' o := by
  cases o with
  | none => trivial
  | some x =>
    obtain ⟨ns, k, big, mark, ha, _⟩ := hF
    exact ⟨b _ _ (ne_of h.1 ha (by intro z; cases z)) h.1, h.2⟩
def spPart : Sp := fun vs H Q _ => ∃ (a c : Addr) (n : Int), vs = [.ref a, .int n] ∧ FeedOk H a c ∧ 0 < n ∧ n ≤ 1000 ∧ ∀ p f H', FeedOk H' a c → But a H H' → Fr H' p f → SmF f → Q (.ref p) H'
theorem mid_of {m : Int} (h : 0 < m) (h2 : m ≤ 8000) : Mid m := ⟨h, small_log2 (by omega)⟩
theorem ok_part (T : Txt K mg fa fd) : FnOk P w K mg base CX0 3 (fa 14) (fd 14) ["_law_feed_here", "_law_size"] spPart := by
  refine T.F_part.ok sc_part (fun vs H Q E h => ?_) (fun cdv A outer s H vs Q E hr h => ?_)
  · obtain ⟨a, c, n, rfl, _⟩ := h
    rfl
  · obtain ⟨a, c, n, rfl, hF, h0, h1, q⟩ := h
    refine ⟨_, (pss_cons (ps_set (i := 2) sc_part.nd rfl (.inl rfl) (pe_op op_sub (pe_call (ok_draw T) (hr.mono (by decide)) (by rfl) T.g_draw T.F_draw.kp T.b_draw .nil pass0 (pa_cons (pv 0) (pa_cons (pe_op op_add (pe_op op_mul pe_int (pv 1)) pe_int) pa_nil))) (pv 1)))
      (pss_one (ps_ret (pe_call (ok_low T) (hr.mono (by decide)) (by rfl) T.g_low T.F_low.kp T.b_low .nil pass0 (pa_cons (pv 2) (pa_cons (pe_ifExp (pt_cmpR op_eq (pe_call (ok_draw T) (hr.mono (by decide)) (by rfl) T.g_draw T.F_draw.kp T.b_draw .nil pass0 (pa_cons (pv 0) (pa_cons pe_int pa_nil))) pe_int (nomark _)) pe_int (pe_op op_add pe_int (pe_call (ok_draw T) (hr.mono (by decide)) (by rfl) T.g_draw T.F_draw.kp T.b_draw .nil pass0 (pa_cons (pv 0) (pa_cons pe_int pa_nil))))) pa_nil)))))), ?_⟩
    refine ⟨_, rfl, _, rfl, _, _, rfl, rfl, .inl (by decide), _, _, rfl, rfl, a, c, _, rfl, hF, mid_of (by omega) (by omega), fun r H1 r0 r1 hF1 b1 => ?_⟩
    refine ⟨_, rfl, _, _, rfl, rfl, _, rfl, _, rfl, a, c, _, rfl, hF1, mid_of (by decide) (by decide), fun r2 H2 _ _ hF2 b2 => ⟨rfl, _, rfl, ?_⟩⟩
    have fin : ∀ (v : Int) (H3 : Hp), 0 < v → v ≤ 4 → FeedOk H3 a c → But a H H3 → spLow [.int (r - n), .int v] H3 Q E0 := fun v H3 v0 v1 hF3 b3 =>
      ⟨_, _, rfl, by omega, small_log2 (by omega), fun p np => q p (lowT (r - n) v, lowD (r - n) v) _ (hF3.new np) (b3.trans (But.of (same_upd np))) upd_same (small_sm (Nat.le_trans (lowT_abs (v := v) (by omega)) (by omega)))⟩
    refine ite2 (fun e => fin 1 H2 (by decide) (by decide) hF2 (b1.trans b2)) (fun e => ?_)
    exact ⟨_, rfl, a, c, _, rfl, hF2, mid_of (by decide) (by decide), fun r3 H3 r4 r5 hF3 b3 => ⟨_, _, rfl, rfl, fin _ H3 (by omega) (by omega) hF3 ((b1.trans b2).trans b3)⟩⟩
theorem four_line : 4 ≤ sizeLine := Nat.le_trans (by decide : 4 ≤ 1000) (Nat.le_of_lt (small1000 (Nat.le_refl _)))
theorem one_line : 1 ≤ sizeLine := Nat.le_trans (by decide : 1 ≤ 2) two_line
theorem eqd_o {H : Hp} {o : OF} (h : okO H o) : Eqd H 1 (vO o) (vO o) := by
  cases o with
  | none => exact .inl ⟨rfl, .inl rfl⟩
  | some x =>
    refine .inr ⟨x.1, x.1, _, _, rfl, rfl, .inr ⟨h.1, h.1⟩, rfl, (by show 2 ≤ 1000; decide), fun i y z h1 h2 => ?_⟩
    have e : y = z := Option.some.inj (h1.symm.trans h2)
    subst e
    match i, h1 with
    | 0, h1 => cases h1; exact ⟨rfl, .inr (.inr (.inl ⟨_, rfl⟩))⟩
    | 1, h1 => cases h1; exact ⟨rfl, .inr (.inr (.inl ⟨_, rfl⟩))⟩
theorem eqd_l {H : Hp} {a b : Addr} {os : List OF} (ha : H a = some (.lst (os.map vO))) (hb : H b = some (.lst (os.map vO))) (hl : os.length ≤ 1000) (ok : ∀ o ∈ os, okO H o) : Eqd H 2 (.ref a) (.ref b) := by
  refine .inr ⟨a, b, _, _, rfl, rfl, .inl ⟨ha, hb⟩, rfl, by rw [List.length_map]; exact hl, fun i y z h1 h2 => ?_⟩
  have e : y = z := Option.some.inj (h1.symm.trans h2)
  subst e
  rw [List.getElem?_map] at h1
  obtain ⟨o, ho, rfl⟩ := Option.map_eq_some_iff.mp h1
  exact eqd_o (ok o (List.mem_of_getElem? ho))
theorem bestL_all {H : Hp} {top : Bool} {xs : List OF} (h : ∀ x ∈ xs, okO H x) : okO H (bestL top xs) := bestL_ok trivial h
theorem best_one (top : Bool) (x : OF) : bestL top [x] = x := by
  cases x <;> rfl
def spLaw (K : PySem.W.Frag) : Sp := fun vs H Q _ => ∃ (a : Addr) (ns : List Int), vs = [.ref a] ∧ SqL K H a (ns.map V.int) ∧ ns.length ≤ 63 ∧ ∀ H', Q (.bl true) H'
theorem ok_p_law (T : Txt K mg fa fd) : FnOk P w K mg base CX0 6 (fa 16) (fd 16) ["_law_script"] (spLaw K) := by
  refine T.F_p_law.ok sc_p_law (fun vs H Q E h => ?_) (fun cdv A outer s H vs Q E hr h => ?_)
  · obtain ⟨a, ns, rfl, _⟩ := h
    rfl
  · obtain ⟨s0, ns, rfl, hS, hlen, q⟩ := h
    refine ⟨_, (C8.pss_cut (ps_set (i := 1) sc_p_law.nd rfl (.inr rfl) (pe_call (ok_feed T) (hr.mono (by decide)) (by rfl) T.g_feed T.F_feed.kp T.b_feed .nil pass0 (pa_cons (pv 0) pa_nil)))
      (pss_cons (ps_for PassesOwn.never rfl (pi_range1 (by rfl) T.m_range (pa_cons pe_int pa_nil)) (pg_name (i := 2) sc_p_law.nd rfl (.inl rfl)) (C8.pss_cut (ps_setLc (i := 3) (own := [("_law_k", 10)]) (g := gName 10) (tt := tYes) rfl sc_p_law.nd rfl rfl (sw_true rfl rfl rfl (by decide +kernel)) (pi_range1 (by rfl) T.m_range (pa_cons pe_int pa_nil)) (blkOk_by (own := [("_law_k", 10)]) (N := ["_law_script", "_law_feed_here", "_law_turn", "_law_some", "_law_a", "_law_b", "_law_c", "_law_d", "_law_told", "_law_due", "_law_k"]) (sc := defScope s_p_law) (by decide +kernel)) (fun _ _ _ _ _ => pg_name (i := 10) sc_p_law.nd rfl (Or.inl rfl)) (fun _ _ _ _ _ => pts_nil) (fun _ _ _ _ _ => (pe_ifExp (pt_cmpR op_eq (pe_call (ok_draw T) (hr.mono (by decide)) (by rfl) T.g_draw T.F_draw.kp T.b_draw .nil pass0 (pa_cons (pv 1) (pa_cons pe_int pa_nil))) pe_int (nomark _)) pe_non (pe_call (ok_part T) (hr.mono (by decide)) (by rfl) T.g_part T.F_part.kp T.b_part .nil pass0 (pa_cons (pv 1) (pa_cons (pe_call (ok_any T) (hr.mono (by decide)) (by rfl) T.g_any T.F_any.kp T.b_any .nil pass0 (pa_cons (pv 1) (pa_cons (pe_lst (pa_cons pe_int (pa_cons pe_int pa_nil))) pa_nil))) pa_nil))))))
      (C8.pss_cut (ps_asg (pe_ifExp (pt_cmpR op_eq (pe_call (ok_draw T) (hr.mono (by decide)) (by rfl) T.g_draw T.F_draw.kp T.b_draw .nil pass0 (pa_cons (pv 1) (pa_cons pe_int pa_nil))) pe_int (nomark _)) (pe_ix ix_list (pv 3) pe_int (fun _ _ => rfl)) (pe_ix ix_list (pv 3) pe_int (fun _ _ => rfl))) (pg_sub (pv 3) pe_int set_list))
      (pss_cons (ps_asg (pv 3) (pg_unl (by rfl) (pgs_cons (pg_name (i := 4) sc_p_law.nd rfl (.inl rfl)) (pgs_cons (pg_name (i := 5) sc_p_law.nd rfl (.inl rfl)) (pgs_cons (pg_name (i := 6) sc_p_law.nd rfl (.inl rfl)) (pgs_cons (pg_name (i := 7) sc_p_law.nd rfl (.inl rfl)) pgs_nil))))))
      (C8.pss_cut (ps_set (i := 8) sc_p_law.nd rfl (.inl rfl) (pe_lst (pa_cons (pe_callR (ok_p_least T) (hr.mono (by decide)) (by rfl) T.g_p_least T.F_p_least.kp pass0 (pa_cons (pv 4) (pa_cons (pv 5) (pa_cons (pv 6) (pa_cons (pv 7) pa_nil))))) (pa_cons (pe_callR (ok_p_greatest T) (hr.mono (by decide)) (by rfl) T.g_p_greatest T.F_p_greatest.kp pass0 (pa_cons (pv 4) (pa_cons (pv 5) (pa_cons (pv 6) (pa_cons (pv 7) pa_nil))))) (pa_cons (pe_callR (ok_p_least T) (hr.mono (by decide)) (by rfl) T.g_p_least T.F_p_least.kp pass0 (pa_cons (pv 4) (pa_cons (pv 5) (pa_cons (pv 6) pa_nil)))) (pa_cons (pe_callR (ok_p_greatest T) (hr.mono (by decide)) (by rfl) T.g_p_greatest T.F_p_greatest.kp pass0 (pa_cons (pv 5) (pa_cons (pv 6) (pa_cons (pv 7) pa_nil)))) (pa_cons (pe_callR (ok_p_least T) (hr.mono (by decide)) (by rfl) T.g_p_least T.F_p_least.kp pass0 (pa_cons (pv 4) (pa_cons (pv 5) pa_nil))) (pa_cons (pe_callR (ok_p_greatest T) (hr.mono (by decide)) (by rfl) T.g_p_greatest T.F_p_greatest.kp pass0 (pa_cons (pv 4) (pa_cons (pv 5) pa_nil))) pa_nil))))))))
      (C8.pss_cut (ps_set (i := 9) sc_p_law.nd rfl (.inl rfl) (pe_lst (pa_cons (pe_call (ok_best T) (hr.mono (by decide)) (by rfl) T.g_best T.F_best.kp T.b_best .nil pass0 (pa_cons (pv 3) (pa_cons pe_bl pa_nil))) (pa_cons (pe_call (ok_best T) (hr.mono (by decide)) (by rfl) T.g_best T.F_best.kp T.b_best .nil pass0 (pa_cons (pv 3) (pa_cons pe_bl pa_nil))) (pa_cons (pe_call (ok_best T) (hr.mono (by decide)) (by rfl) T.g_best T.F_best.kp T.b_best .nil pass0 (pa_cons (pe_slice sl_list (pv 3) po_none (po_some pe_int)) (pa_cons pe_bl pa_nil))) (pa_cons (pe_call (ok_best T) (hr.mono (by decide)) (by rfl) T.g_best T.F_best.kp T.b_best .nil pass0 (pa_cons (pe_slice sl_list (pv 3) (po_some pe_int) po_none) (pa_cons pe_bl pa_nil))) pa_nil))))))
      (C8.pss_cut (ps_set (i := 9) sc_p_law.nd rfl (.inl rfl) (pe_op op_cat (pv 9) (pe_lst (pa_cons (pe_call (ok_best T) (hr.mono (by decide)) (by rfl) T.g_best T.F_best.kp T.b_best .nil pass0 (pa_cons (pe_slice sl_list (pv 3) po_none (po_some pe_int)) (pa_cons pe_bl pa_nil))) (pa_cons (pe_call (ok_best T) (hr.mono (by decide)) (by rfl) T.g_best T.F_best.kp T.b_best .nil pass0 (pa_cons (pe_slice sl_list (pv 3) po_none (po_some pe_int)) (pa_cons pe_bl pa_nil))) pa_nil)))))
      (pss_one (ps_if (PW.pt (pw_or (pt_not (pt_val (pe_call (ok_same T 3) (hr.mono (by decide)) (by rfl) T.g_same T.F_same.kp T.b_same .nil pass0 (pa_cons (pv 8) (pa_cons (pv 9) pa_nil))))) (pw_or1 (pt_not (pt_val (pe_call (ok_same T 3) (hr.mono (by decide)) (by rfl) T.g_same T.F_same.kp T.b_same .nil pass0 (pa_cons (pe_lst (pa_cons (pe_callR (ok_p_least T) (hr.mono (by decide)) (by rfl) T.g_p_least T.F_p_least.kp pass0 (pa_cons (pv 7) pa_nil)) (pa_cons (pe_callR (ok_p_greatest T) (hr.mono (by decide)) (by rfl) T.g_p_greatest T.F_p_greatest.kp pass0 (pa_cons (pv 6) pa_nil)) pa_nil))) (pa_cons (pe_lst (pa_cons (pv 7) (pa_cons (pv 6) pa_nil))) pa_nil)))))))) (pss_one (ps_ret pe_bl)) pss_nil)))))))))
      (pss_one (ps_ret (pe_call (ok_same T 3) (hr.mono (by decide)) (by rfl) T.g_same T.F_same.kp T.b_same .nil pass0 (pa_cons (pe_lst (pa_cons (pe_callR0 (ok_p_least T) (hr.mono (by decide)) (by rfl) T.g_p_least T.F_p_least.kp pass0) (pa_cons (pe_callR0 (ok_p_greatest T) (hr.mono (by decide)) (by rfl) T.g_p_greatest T.F_p_greatest.kp pass0) (pa_cons (pe_callR (ok_p_least T) (hr.mono (by decide)) (by rfl) T.g_p_least T.F_p_least.kp pass0 (pa_cons pe_non pa_nil)) (pa_cons (pe_callR (ok_p_greatest T) (hr.mono (by decide)) (by rfl) T.g_p_greatest T.F_p_greatest.kp pass0 (pa_cons pe_non (pa_cons pe_non pa_nil))) pa_nil))))) (pa_cons (pe_op op_rep (pe_lst (pa_cons pe_non pa_nil)) pe_int) pa_nil))))))), ?_⟩
    refine ⟨fun σ H1 => ∃ a c, σ = [some (.ref s0), some (.ref a), none, none, none, none, none, none, none, none, none] ∧ FeedOk H1 a c, ⟨_, rfl, s0, ns, rfl, hS, hlen, fun a c H1 _ _ _ hF => ⟨a, c, rfl, hF⟩⟩, fun σ H1 hM => ?_⟩
    obtain ⟨a, c, rfl, hF⟩ := hM
    refine ⟨6, rfl, by decide, by decide, for_range (n := 6) (fun i σ H2 => FeedOk H2 a c ∧ ∃ y2 y3 y4 y5 y6 y7 y8 y9 y10, σ = [some (.ref s0), some (.ref a), y2, y3, y4, y5, y6, y7, y8, y9, y10]) ⟨hF, _, _, _, _, _, _, _, _, _, rfl⟩ (fun i σ H2 hi hp => ?_) (fun σ H2 hp => ?_)⟩
    · obtain ⟨hF2, y2, y3, y4, y5, y6, y7, y8, y9, y10, rfl⟩ := hp
      -- some = [..]
      refine ⟨fun σ H3 => FeedOk H3 a c ∧ ∃ (D : Addr) (x0 x1 x2 x3 : OF) (y2 y4 y5 y6 y7 y8 y9 y10 : Option V), σ = [some (.ref s0), some (.ref a), y2, some (.ref D), y4, y5, y6, y7, y8, y9, y10] ∧ D ≠ a ∧ D ≠ c ∧ H3 D = some (.lst [vO x0, vO x1, vO x2, vO x3]) ∧ okO H3 x0 ∧ okO H3 x1 ∧ okO H3 x2 ∧ okO H3 x3, ?_, fun σ H3 hM => ?_⟩
      · refine ⟨4, rfl, by decide, by decide, fun D nD => ?_⟩
        have hFD := hF2.new (o := .lst []) nD
        have nDa : D ≠ a := by
          obtain ⟨_, _, _, _, ha, _⟩ := hF2
          exact (ne_of_none ha nD).symm
        have nDc : D ≠ c := by
          obtain ⟨_, _, _, _, _, hc, _⟩ := hF2
          exact (ne_of_none hc nD).symm
        refine lc_range (n := 4) (fun i H3 => FeedOk H3 a c ∧ ∃ acc : List OF, acc.length = i ∧ H3 D = some (.lst (acc.map vO)) ∧ ∀ x ∈ acc, okO H3 x) ⟨hFD, [], rfl, upd_same, fun _ h => nomatch h⟩ (fun i H3 hi hp => ?_) (fun H3 hp => ?_)
        · obtain ⟨hF3, acc, el, hD, hok⟩ := hp
          -- what a new item brings
          have add : ∀ (o : OF) (H4 : Hp), FeedOk H4 a c → But a H3 H4 → okO H4 o → ∃ acc' : List V, H4 D = some (.lst acc') ∧ acc'.length < sizeLine ∧ (FeedOk (upd H4 D (.lst (acc' ++ [vO o]))) a c ∧ ∃ acc : List OF, acc.length = i + 1 ∧ (upd H4 D (.lst (acc' ++ [vO o]))) D = some (.lst (acc.map vO)) ∧ ∀ x ∈ acc, okO (upd H4 D (.lst (acc' ++ [vO o]))) x) := fun o H4 hF4 b4 ho => by
            have hD4 := b4 _ _ nDa hD
            have keep : ∀ x, okO H4 x → okO (upd H4 D (.lst (acc.map vO ++ [vO o]))) x := fun x hx => by
              cases x with
              | none => trivial
              | some x => exact ⟨by
                  show upd H4 D _ x.1 = _
                  rw [upd_ne (ne_of hx.1 hD4 (by intro z; cases z))]
                  exact hx.1, hx.2⟩
            refine ⟨_, hD4, ?_, ?_, acc ++ [o], ?_, ?_, fun x hx => ?_⟩
            · rw [List.length_map, el]
              exact small1000 (by omega)
            · obtain ⟨ns', k, big, mark, ha, hc, r⟩ := hF4
              exact ⟨ns', k, big, mark, by rw [upd_ne nDa.symm]; exact ha, by rw [upd_ne nDc.symm]; exact hc, r⟩
            · rw [List.length_append, el]
              rfl
            · rw [upd_same, List.map_append]
              rfl
            · rcases List.mem_append.mp hx with hx | hx
              · exact keep x ((hok x hx).but hF3 b4)
              · rw [List.mem_singleton.mp hx]
                exact keep o ho
          refine ⟨rfl, _, rfl, a, c, _, rfl, hF3, mid_of (by decide) (by decide), fun r H4 _ _ hF4 b4 => ⟨rfl, _, rfl, ite2 (fun e => ?_) (fun e => ?_)⟩⟩
          · exact add none H4 hF4 b4 trivial
          · refine ⟨_, rfl, _, rfl, two_line, fun p np => ?_⟩
            have npa : p ≠ a := by
              obtain ⟨_, _, _, _, ha, _⟩ := hF4
              exact (ne_of_none ha np).symm
            refine ⟨a, c, p, _, rfl, hF4.new np, upd_same, npa, by show 0 < 2; decide, by show 2 ≤ 1000; decide, fun v H5 hv hF5 b5 => ?_⟩
            have b45 : But a H3 H5 := (b4.trans (But.of (same_upd np))).trans b5
            obtain ⟨n, rfl, n0, n1⟩ : ∃ n : Int, v = .int n ∧ 0 < n ∧ n ≤ 1000 := by
              rcases List.mem_cons.mp hv with ev | hv
              · exact ⟨3, ev, by decide, by decide⟩
              · exact ⟨40, List.mem_singleton.mp hv, by decide, by decide⟩
            exact ⟨a, c, n, rfl, hF5, n0, n1, fun p f H6 hF6 b6 hf sf => add (some (p, f)) H6 hF6 (b45.trans b6) ⟨hf, sf⟩⟩
        · obtain ⟨hF3, acc, el, hD, hok⟩ := hp
          match acc, el, hD, hok with
          | [x0, x1, x2, x3], _, hD, hok =>
            exact ⟨hF3, D, x0, x1, x2, x3, _, _, _, _, _, _, _, _, rfl, nDa, nDc, hD, hok _ (by simp), hok _ (by simp), hok _ (by simp), hok _ (by simp)⟩
      · obtain ⟨hF3, D, x0, x1, x2, x3, y2, y4, y5, y6, y7, y8, y9, y10, rfl, nDa, nDc, hD, o0, o1, o2, o3⟩ := hM
        -- some[3] = ..
        refine ⟨fun σ H4 => FeedOk H4 a c ∧ ∃ (x3 : OF), σ = [some (.ref s0), some (.ref a), y2, some (.ref D), y4, y5, y6, y7, y8, y9, y10] ∧ H4 D = some (.lst [vO x0, vO x1, vO x2, vO x3]) ∧ okO H4 x0 ∧ okO H4 x1 ∧ okO H4 x2 ∧ okO H4 x3, ?_, fun σ H4 hM => ?_⟩
        · refine ⟨_, rfl, a, c, _, rfl, hF3, mid_of (by decide) (by decide), fun r H4 _ _ hF4 b4 => ⟨rfl, _, rfl, ?_⟩⟩
          have hD4 := b4 _ _ nDa hD
          have p0 := o0.but hF3 b4
          have p1 := o1.but hF3 b4
          have p2 := o2.but hF3 b4
          have p3 := o3.but hF3 b4
          have keep : ∀ (os : List V) (x : OF), okO H4 x → okO (upd H4 D (.lst os)) x := fun os x hx => by
            cases x with
            | none => trivial
            | some x => exact ⟨by
                show upd H4 D _ x.1 = _
                rw [upd_ne (ne_of hx.1 hD4 (by intro z; cases z))]
                exact hx.1, hx.2⟩
          have feed : ∀ os : List V, FeedOk (upd H4 D (.lst os)) a c := fun os => by
            obtain ⟨ns', k, big, mark, ha, hc, r⟩ := hF4
            exact ⟨ns', k, big, mark, by rw [upd_ne nDa.symm]; exact ha, by rw [upd_ne nDc.symm]; exact hc, r⟩
          refine ite2 (fun e => ?_) (fun e => ?_)
          · exact ⟨_, rfl, D, _, _, _, rfl, rfl, SqL.of hD4, rfl, _, rfl, D, _, _, 3, rfl, rfl, hD4, rfl, feed _, x0, rfl, upd_same, keep _ _ p0, keep _ _ p1, keep _ _ p2, keep _ _ p0⟩
          · exact ⟨_, rfl, D, _, _, _, rfl, rfl, SqL.of hD4, rfl, _, rfl, D, _, _, 3, rfl, rfl, hD4, rfl, feed _, x3, rfl, upd_same, keep _ _ p0, keep _ _ p1, keep _ _ p2, keep _ _ p3⟩
        · clear o0 o1 o2 o3 hD hF3 x3
          obtain ⟨hF4, x3, rfl, hD4, o0, o1, o2, o3⟩ := hM
          -- a, b, c, d = some
          refine ⟨_, rfl, D, _, rfl, SqL.of hD4, rfl, _, _, rfl, _, _, rfl, _, _, rfl, _, _, rfl, rfl, ?_⟩
          -- told
          have sub : ∀ (xs : List OF) (H' : Hp), Same H4 H' → (∀ x ∈ xs, x = x0 ∨ x = x1 ∨ x = x2 ∨ x = x3) → ∀ x ∈ xs, okO H' x := fun xs H' s h x hx => by
            rcases h x hx with rfl | rfl | rfl | rfl
            · exact o0.same s
            · exact o1.same s
            · exact o2.same s
            · exact o3.same s
          have six : 6 ≤ sizeLine := Nat.le_of_lt (small1000 (by decide))
          refine ⟨fun σ H5 => Same H4 H5 ∧ ∃ t, H5 t = some (.lst ([bestL false [x0, x1, x2, x3], bestL true [x0, x1, x2, x3], bestL false [x0, x1, x2], bestL true [x1, x2, x3], bestL false [x0, x1], bestL true [x0, x1]].map vO)) ∧ σ = [some (.ref s0), some (.ref a), y2, some (.ref D), some (vO x0), some (vO x1), some (vO x2), some (vO x3), some (.ref t), y9, y10], ?_, fun σ H5 hM => ?_⟩
          · refine ⟨_, rfl, _, rfl, _, rfl, _, rfl, [x0, x1, x2, x3], rfl, (by show 4 ≤ 1000; decide), sub _ _ (Same.refl _) (by simp), fun H5 t5 => ?_⟩
            refine ⟨_, rfl, _, rfl, _, rfl, _, rfl, [x0, x1, x2, x3], rfl, (by show 4 ≤ 1000; decide), sub _ _ t5 (by simp), fun H6 t6 => ?_⟩
            refine ⟨_, rfl, _, rfl, _, rfl, [x0, x1, x2], rfl, (by show 3 ≤ 1000; decide), sub _ _ (t5.trans t6) (by simp), fun H7 t7 => ?_⟩
            refine ⟨_, rfl, _, rfl, _, rfl, [x1, x2, x3], rfl, (by show 3 ≤ 1000; decide), sub _ _ ((t5.trans t6).trans t7) (by simp), fun H8 t8 => ?_⟩
            refine ⟨_, rfl, _, rfl, [x0, x1], rfl, (by show 2 ≤ 1000; decide), sub _ _ (((t5.trans t6).trans t7).trans t8) (by simp), fun H9 t9 => ?_⟩
            refine ⟨_, rfl, _, rfl, [x0, x1], rfl, (by show 2 ≤ 1000; decide), sub _ _ ((((t5.trans t6).trans t7).trans t8).trans t9) (by simp), fun H10 t10 => ?_⟩
            refine ⟨six, fun p np => ⟨(((((t5.trans t6).trans t7).trans t8).trans t9).trans t10).trans (same_upd np), p, upd_same, rfl⟩⟩
          · obtain ⟨s5, t, ht, rfl⟩ := hM
            have hD5 := s5 _ _ hD4
            have all4 := sub [x0, x1, x2, x3] _ s5 (by simp)
            -- due
            refine ⟨fun σ H6 => Same H4 H6 ∧ H6 t = some (.lst ([bestL false [x0, x1, x2, x3], bestL true [x0, x1, x2, x3], bestL false [x0, x1, x2], bestL true [x1, x2, x3], bestL false [x0, x1], bestL true [x0, x1]].map vO)) ∧ ∃ d, H6 d = some (.lst ([bestL false [x0, x1, x2, x3], bestL true [x0, x1, x2, x3], bestL false [x0, x1, x2], bestL true [x1, x2, x3]].map vO)) ∧ σ = [some (.ref s0), some (.ref a), y2, some (.ref D), some (vO x0), some (vO x1), some (vO x2), some (vO x3), some (.ref t), some (.ref d), y10], ?_, fun σ H6 hM => ?_⟩
            · refine ⟨_, rfl, D, [x0, x1, x2, x3], false, rfl, hD5, all4, _, rfl, D, [x0, x1, x2, x3], true, rfl, hD5, all4, _, rfl, 3, rfl, D, _, rfl, SqL.of hD5, fun p np => ?_⟩
              have e1 := same_upd (o := .lst ([x0, x1, x2].map vO)) np
              refine ⟨p, [x0, x1, x2], false, rfl, upd_same, sub _ _ (s5.trans e1) (by simp), _, rfl, 1, rfl, D, _, rfl, SqL.of (e1 _ _ hD5), fun p2 np2 => ?_⟩
              have e2 := same_upd (o := .lst ([x1, x2, x3].map vO)) np2
              refine ⟨p2, [x1, x2, x3], true, rfl, upd_same, sub _ _ (s5.trans (e1.trans e2)) (by simp), four_line, fun p3 np3 => ?_⟩
              have e3 := same_upd (o := .lst ([bestL false [x0, x1, x2, x3], bestL true [x0, x1, x2, x3], bestL false [x0, x1, x2], bestL true [x1, x2, x3]].map vO)) np3
              have e := e1.trans (e2.trans e3)
              exact ⟨s5.trans e, e _ _ ht, p3, upd_same, rfl⟩
            · obtain ⟨s6, ht6, d, hd, rfl⟩ := hM
              have hD6 := s6 _ _ hD4
              refine ⟨fun σ H7 => Same H4 H7 ∧ H7 t = some (.lst ([bestL false [x0, x1, x2, x3], bestL true [x0, x1, x2, x3], bestL false [x0, x1, x2], bestL true [x1, x2, x3], bestL false [x0, x1], bestL true [x0, x1]].map vO)) ∧ ∃ d, H7 d = some (.lst ([bestL false [x0, x1, x2, x3], bestL true [x0, x1, x2, x3], bestL false [x0, x1, x2], bestL true [x1, x2, x3], bestL false [x0, x1], bestL true [x0, x1]].map vO)) ∧ σ = [some (.ref s0), some (.ref a), y2, some (.ref D), some (vO x0), some (vO x1), some (vO x2), some (vO x3), some (.ref t), some (.ref d), y10], ?_, fun σ H7 hM => ?_⟩
              · refine ⟨_, rfl, _, rfl, 2, rfl, D, _, rfl, SqL.of hD6, fun p np => ?_⟩
                have e1 := same_upd (o := .lst ([x0, x1].map vO)) np
                refine ⟨p, [x0, x1], false, rfl, upd_same, sub _ _ (s6.trans e1) (by simp), _, rfl, 2, rfl, D, _, rfl, SqL.of (e1 _ _ hD6), fun p2 np2 => ?_⟩
                have e2 := same_upd (o := .lst ([x0, x1].map vO)) np2
                refine ⟨p2, [x0, x1], true, rfl, upd_same, sub _ _ (s6.trans (e1.trans e2)) (by simp), two_line, fun p3 np3 => ?_⟩
                have e3 := same_upd (o := .lst ([bestL false [x0, x1], bestL true [x0, x1]].map vO)) np3
                have e := e1.trans (e2.trans e3)
                refine ⟨d, p3, _, _, rfl, rfl, e _ _ hd, upd_same, six, fun p4 np4 => ?_⟩
                have e4 := e.trans (same_upd (o := .lst ([bestL false [x0, x1, x2, x3], bestL true [x0, x1, x2, x3], bestL false [x0, x1, x2], bestL true [x1, x2, x3], bestL false [x0, x1], bestL true [x0, x1]].map vO)) np4)
                exact ⟨s6.trans e4, e4 _ _ ht6, p4, upd_same, rfl⟩
              · obtain ⟨s7, ht7, d, hd, rfl⟩ := hM
                have ok6 : ∀ o ∈ [bestL false [x0, x1, x2, x3], bestL true [x0, x1, x2, x3], bestL false [x0, x1, x2], bestL true [x1, x2, x3], bestL false [x0, x1], bestL true [x0, x1]], okO H7 o := fun o ho => by
                  simp only [List.mem_cons, List.not_mem_nil, or_false] at ho
                  rcases ho with rfl | rfl | rfl | rfl | rfl | rfl <;> exact bestL_all (sub _ _ s7 (by simp))
                refine ⟨_, rfl, _, rfl, .ref t, .ref d, rfl, eqd_l ht7 hd (by show 6 ≤ 1000; decide) ok6, fun H8 s8 => ⟨_, rfl, iteF ?_⟩⟩
                have s78 := s7.trans s8
                refine ⟨_, rfl, [x3], rfl, (by show 1 ≤ 1000; decide), sub _ _ s78 (by simp), fun H9 s9 => ?_⟩
                have s79 := s78.trans s9
                refine ⟨_, rfl, [x2], rfl, (by show 1 ≤ 1000; decide), sub _ _ s79 (by simp), fun H10 s10 => ?_⟩
                have s710 := s79.trans s10
                refine ⟨two_line, fun p np => ?_⟩
                rw [best_one, best_one]
                have e1 := same_upd (o := .lst ([x3, x2].map vO)) np
                refine ⟨_, rfl, _, rfl, two_line, fun p2 np2 => ?_⟩
                have e2 := same_upd (o := .lst ([x3, x2].map vO)) np2
                refine ⟨.ref p, .ref p2, rfl, eqd_l (os := [x3, x2]) (e2 _ _ upd_same) upd_same (by show 2 ≤ 1000; decide) (sub _ _ (s710.trans (e1.trans e2)) (by simp)), fun H11 s11 => ⟨_, rfl, iteF ?_⟩⟩
                exact ⟨hF4.same ((s710.trans (e1.trans e2)).trans s11), _, _, _, _, _, _, _, _, _, rfl⟩
    · obtain ⟨hF2, y2, y3, y4, y5, y6, y7, y8, y9, y10, rfl⟩ := hp
      refine ⟨[], rfl, (by show 0 ≤ 1000; decide), (fun _ h => nomatch h), fun H3 s3 => ⟨[], rfl, (by show 0 ≤ 1000; decide), (fun _ h => nomatch h), fun H4 s4 => ?_⟩⟩
      refine ⟨[none], rfl, (by show 1 ≤ 1000; decide), (fun x h => by rw [List.mem_singleton.mp h]; trivial), fun H5 s5 => ⟨[none, none], rfl, (by show 2 ≤ 1000; decide), (fun x h => by simp at h; rw [h]; trivial), fun H6 s6 => ?_⟩⟩
      refine ⟨four_line, fun p np => ⟨one_line, fun p2 np2 => ⟨p2, 4, _, rfl, rfl, upd_same, by decide, by decide, four_line, fun p3 np3 => ?_⟩⟩⟩
      have e1 := same_upd (o := .lst ([none, none, none, none].map vO)) np
      have e2 := same_upd (o := .lst [V.non]) np2
      have e3 := same_upd (o := .lst ([none, none, none, none].map vO)) np3
      exact ⟨.ref p, .ref p3, rfl, eqd_l (os := [none, none, none, none]) (e3 _ _ (e2 _ _ upd_same)) upd_same (by show 4 ≤ 1000; decide) (fun x h => by simp at h; rw [h]; trivial), fun H7 s7 => q H7⟩
end
theorem all_mk {l : PySem.W.OpenLaw} {w : World} {K : PySem.W.Frag} {h : Heap} {mg : Str → Option Value} {fl f1 f2 f3 f5 f6 f7 f8 f9 f10 f11 f12 f13 f14 f15 f16 : Addr} (X : K.In h) (G : h.Ns mainGlobals mg) (hfa : mg "law" = some (.ref fl))
    {od1 an1 od2 an2 od3 an3 od5 an5 od6 an6 od7 an7 od8 an8 od9 an9 od10 an10 od11 an11 od12 an12 od13 an13 od14 an14 od15 an15 od16 an16 : Option Addr}
    {sl1 sl2 sl3 sl5 sl6 sl7 sl8 sl9 sl10 sl11 sl12 sl13 sl14 sl15 sl16 : Array (Option Value)}
    {oc1 kV1 dc1 pm1 cd1 ct1 oc2 kV2 dc2 pm2 cd2 ct2 oc3 kV3 dc3 pm3 cd3 ct3 oc5 kV5 dc5 pm5 cd5 ct5 oc6 kV6 dc6 pm6 cd6 ct6 oc7 kV7 dc7 pm7 cd7 ct7 oc8 kV8 dc8 pm8 cd8 ct8 oc9 kV9 dc9 pm9 cd9 ct9 oc10 kV10 dc10 pm10 cd10 ct10 oc11 kV11 dc11 pm11 cd11 ct11 oc12 kV12 dc12 pm12 cd12 ct12 oc13 kV13 dc13 pm13 cd13 ct13 oc14 kV14 dc14 pm14 cd14 ct14 oc15 kV15 dc15 pm15 cd15 ct15 oc16 kV16 dc16 pm16 cd16 ct16 : Value}
    (a1 : PySem.W.nsIn K mainGlobals "is_less" = some (some (.ref f1))) (l1 : K.lookup f1 = some ⟨oc1, od1, .func (PySem.W.fnOf "is_less" "is_less" (defArgs s_p_is_less) (defBody s_p_is_less) (defScope s_p_is_less) .none kV1 dc1 pm1 an1 cd1 ct1), sl1⟩) (c1 : PySem.W.codeIn K cd1 "is_less" = true) (k1 : PySem.W.keepIn K (.ref f1) = true)
    (a2 : PySem.W.nsIn K mainGlobals "least" = some (some (.ref f2))) (l2 : K.lookup f2 = some ⟨oc2, od2, .func (PySem.W.fnOf "least" "least" (defArgs s_p_least) (defBody s_p_least) (defScope s_p_least) .none kV2 dc2 pm2 an2 cd2 ct2), sl2⟩) (c2 : PySem.W.codeIn K cd2 "least" = true) (k2 : PySem.W.keepIn K (.ref f2) = true)
    (a3 : PySem.W.nsIn K mainGlobals "greatest" = some (some (.ref f3))) (l3 : K.lookup f3 = some ⟨oc3, od3, .func (PySem.W.fnOf "greatest" "greatest" (defArgs s_p_greatest) (defBody s_p_greatest) (defScope s_p_greatest) .none kV3 dc3 pm3 an3 cd3 ct3), sl3⟩) (c3 : PySem.W.codeIn K cd3 "greatest" = true) (k3 : PySem.W.keepIn K (.ref f3) = true)
    (a5 : PySem.W.nsIn K mainGlobals "_law_feed" = some (some (.ref f5))) (l5 : K.lookup f5 = some ⟨oc5, od5, .func (PySem.W.fnOf "_law_feed" "_law_feed" (defArgs s_feed) (defBody s_feed) (defScope s_feed) .none kV5 dc5 pm5 an5 cd5 ct5), sl5⟩) (c5 : PySem.W.codeIn K cd5 "_law_feed" = true) (k5 : PySem.W.keepIn K (.ref f5) = true)
    (a6 : PySem.W.nsIn K mainGlobals "_law_draw" = some (some (.ref f6))) (l6 : K.lookup f6 = some ⟨oc6, od6, .func (PySem.W.fnOf "_law_draw" "_law_draw" (defArgs s_draw) (defBody s_draw) (defScope s_draw) .none kV6 dc6 pm6 an6 cd6 ct6), sl6⟩) (c6 : PySem.W.codeIn K cd6 "_law_draw" = true) (k6 : PySem.W.keepIn K (.ref f6) = true)
    (a7 : PySem.W.nsIn K mainGlobals "_law_any" = some (some (.ref f7))) (l7 : K.lookup f7 = some ⟨oc7, od7, .func (PySem.W.fnOf "_law_any" "_law_any" (defArgs s_any) (defBody s_any) (defScope s_any) .none kV7 dc7 pm7 an7 cd7 ct7), sl7⟩) (c7 : PySem.W.codeIn K cd7 "_law_any" = true) (k7 : PySem.W.keepIn K (.ref f7) = true)
    (a8 : PySem.W.nsIn K mainGlobals "_law_same" = some (some (.ref f8))) (l8 : K.lookup f8 = some ⟨oc8, od8, .func (PySem.W.fnOf "_law_same" "_law_same" (defArgs s_same) (defBody s_same) (defScope s_same) .none kV8 dc8 pm8 an8 cd8 ct8), sl8⟩) (c8 : PySem.W.codeIn K cd8 "_law_same" = true) (k8 : PySem.W.keepIn K (.ref f8) = true)
    (a9 : PySem.W.nsIn K mainGlobals "_law_gcd" = some (some (.ref f9))) (l9 : K.lookup f9 = some ⟨oc9, od9, .func (PySem.W.fnOf "_law_gcd" "_law_gcd" (defArgs s_gcd) (defBody s_gcd) (defScope s_gcd) .none kV9 dc9 pm9 an9 cd9 ct9), sl9⟩) (c9 : PySem.W.codeIn K cd9 "_law_gcd" = true) (k9 : PySem.W.keepIn K (.ref f9) = true)
    (a10 : PySem.W.nsIn K mainGlobals "_law_low" = some (some (.ref f10))) (l10 : K.lookup f10 = some ⟨oc10, od10, .func (PySem.W.fnOf "_law_low" "_law_low" (defArgs s_low) (defBody s_low) (defScope s_low) .none kV10 dc10 pm10 an10 cd10 ct10), sl10⟩) (c10 : PySem.W.codeIn K cd10 "_law_low" = true) (k10 : PySem.W.keepIn K (.ref f10) = true)
    (a11 : PySem.W.nsIn K mainGlobals "_law_under" = some (some (.ref f11))) (l11 : K.lookup f11 = some ⟨oc11, od11, .func (PySem.W.fnOf "_law_under" "_law_under" (defArgs s_under) (defBody s_under) (defScope s_under) .none kV11 dc11 pm11 an11 cd11 ct11), sl11⟩) (c11 : PySem.W.codeIn K cd11 "_law_under" = true) (k11 : PySem.W.keepIn K (.ref f11) = true)
    (a12 : PySem.W.nsIn K mainGlobals "_law_lesser" = some (some (.ref f12))) (l12 : K.lookup f12 = some ⟨oc12, od12, .func (PySem.W.fnOf "_law_lesser" "_law_lesser" (defArgs s_lesser) (defBody s_lesser) (defScope s_lesser) .none kV12 dc12 pm12 an12 cd12 ct12), sl12⟩) (c12 : PySem.W.codeIn K cd12 "_law_lesser" = true) (k12 : PySem.W.keepIn K (.ref f12) = true)
    (a13 : PySem.W.nsIn K mainGlobals "_law_bigger" = some (some (.ref f13))) (l13 : K.lookup f13 = some ⟨oc13, od13, .func (PySem.W.fnOf "_law_bigger" "_law_bigger" (defArgs s_bigger) (defBody s_bigger) (defScope s_bigger) .none kV13 dc13 pm13 an13 cd13 ct13), sl13⟩) (c13 : PySem.W.codeIn K cd13 "_law_bigger" = true) (k13 : PySem.W.keepIn K (.ref f13) = true)
    (a14 : PySem.W.nsIn K mainGlobals "_law_part" = some (some (.ref f14))) (l14 : K.lookup f14 = some ⟨oc14, od14, .func (PySem.W.fnOf "_law_part" "_law_part" (defArgs s_part) (defBody s_part) (defScope s_part) .none kV14 dc14 pm14 an14 cd14 ct14), sl14⟩) (c14 : PySem.W.codeIn K cd14 "_law_part" = true) (k14 : PySem.W.keepIn K (.ref f14) = true)
    (a15 : PySem.W.nsIn K mainGlobals "_law_best" = some (some (.ref f15))) (l15 : K.lookup f15 = some ⟨oc15, od15, .func (PySem.W.fnOf "_law_best" "_law_best" (defArgs s_best) (defBody s_best) (defScope s_best) .none kV15 dc15 pm15 an15 cd15 ct15), sl15⟩) (c15 : PySem.W.codeIn K cd15 "_law_best" = true) (k15 : PySem.W.keepIn K (.ref f15) = true)
    (a16 : PySem.W.nsIn K mainGlobals "law" = some (some (.ref f16))) (l16 : K.lookup f16 = some ⟨oc16, od16, .func (PySem.W.fnOf "law" "law" (defArgs s_p_law) (defBody s_p_law) (defScope s_p_law) .none kV16 dc16 pm16 an16 cd16 ct16), sl16⟩) (c16 : PySem.W.codeIn K cd16 "law" = true) (k16 : PySem.W.keepIn K (.ref f16) = true)
    (z_int : PySem.W.nsIn K mainGlobals "int" = some none)
    (z_len : PySem.W.nsIn K mainGlobals "len" = some none)
    (z_abs : PySem.W.nsIn K mainGlobals "abs" = some none)
    (z_range : PySem.W.nsIn K mainGlobals "range" = some none)
    (z_zip : PySem.W.nsIn K mainGlobals "zip" = some none)
    (z_all : PySem.W.nsIn K mainGlobals "all" = some none)
    (z_isinstance : PySem.W.nsIn K mainGlobals "isinstance" = some none)
    (z_bool : PySem.W.nsIn K mainGlobals "bool" = some none)
    (z_str : PySem.W.nsIn K mainGlobals "str" = some none)
    (z_tuple : PySem.W.nsIn K mainGlobals "tuple" = some none)
    (z_list : PySem.W.nsIn K mainGlobals "list" = some none)
    (z_dict : PySem.W.nsIn K mainGlobals "dict" = some none)
    : ∃ fd : FuncData, (∀ (s : Shared) (v : Value), BindsTo s fd ⟨[v], []⟩ [("_law_script", v)]) ∧ ∀ base : Heap, K.In base → base.Ns mainGlobals mg → FnOk l.prog w K mg base CX0 6 fl fd ["_law_script"] (spLaw K) := by
  have e := hfa.symm.trans (PySem.W.mg_of X G a16)
  cases e
  have F1 := fun_mk (st := s_p_is_less) l1 c1 k1
  have F2 := fun_mk (st := s_p_least) l2 c2 k2
  have F3 := fun_mk (st := s_p_greatest) l3 c3 k3
  have F5 := fun_mk (st := s_feed) l5 c5 k5
  have F6 := fun_mk (st := s_draw) l6 c6 k6
  have F7 := fun_mk (st := s_any) l7 c7 k7
  have F8 := fun_mk (st := s_same) l8 c8 k8
  have F9 := fun_mk (st := s_gcd) l9 c9 k9
  have F10 := fun_mk (st := s_low) l10 c10 k10
  have F11 := fun_mk (st := s_under) l11 c11 k11
  have F12 := fun_mk (st := s_lesser) l12 c12 k12
  have F13 := fun_mk (st := s_bigger) l13 c13 k13
  have F14 := fun_mk (st := s_part) l14 c14 k14
  have F15 := fun_mk (st := s_best) l15 c15 k15
  have F16 := fun_mk (st := s_p_law) l16 c16 k16
  have T : Txt K mg (fun i => match i with
      | 1 => f1
      | 2 => f2
      | 3 => f3
      | 5 => f5
      | 6 => f6
      | 7 => f7
      | 8 => f8
      | 9 => f9
      | 10 => f10
      | 11 => f11
      | 12 => f12
      | 13 => f13
      | 14 => f14
      | 15 => f15
      | 16 => fl
      | _ => fl) (fun i => match i with
      | 1 => (PySem.W.fnOf "is_less" "is_less" (defArgs s_p_is_less) (defBody s_p_is_less) (defScope s_p_is_less) .none kV1 dc1 pm1 an1 cd1 ct1)
      | 2 => (PySem.W.fnOf "least" "least" (defArgs s_p_least) (defBody s_p_least) (defScope s_p_least) .none kV2 dc2 pm2 an2 cd2 ct2)
      | 3 => (PySem.W.fnOf "greatest" "greatest" (defArgs s_p_greatest) (defBody s_p_greatest) (defScope s_p_greatest) .none kV3 dc3 pm3 an3 cd3 ct3)
      | 5 => (PySem.W.fnOf "_law_feed" "_law_feed" (defArgs s_feed) (defBody s_feed) (defScope s_feed) .none kV5 dc5 pm5 an5 cd5 ct5)
      | 6 => (PySem.W.fnOf "_law_draw" "_law_draw" (defArgs s_draw) (defBody s_draw) (defScope s_draw) .none kV6 dc6 pm6 an6 cd6 ct6)
      | 7 => (PySem.W.fnOf "_law_any" "_law_any" (defArgs s_any) (defBody s_any) (defScope s_any) .none kV7 dc7 pm7 an7 cd7 ct7)
      | 8 => (PySem.W.fnOf "_law_same" "_law_same" (defArgs s_same) (defBody s_same) (defScope s_same) .none kV8 dc8 pm8 an8 cd8 ct8)
      | 9 => (PySem.W.fnOf "_law_gcd" "_law_gcd" (defArgs s_gcd) (defBody s_gcd) (defScope s_gcd) .none kV9 dc9 pm9 an9 cd9 ct9)
      | 10 => (PySem.W.fnOf "_law_low" "_law_low" (defArgs s_low) (defBody s_low) (defScope s_low) .none kV10 dc10 pm10 an10 cd10 ct10)
      | 11 => (PySem.W.fnOf "_law_under" "_law_under" (defArgs s_under) (defBody s_under) (defScope s_under) .none kV11 dc11 pm11 an11 cd11 ct11)
      | 12 => (PySem.W.fnOf "_law_lesser" "_law_lesser" (defArgs s_lesser) (defBody s_lesser) (defScope s_lesser) .none kV12 dc12 pm12 an12 cd12 ct12)
      | 13 => (PySem.W.fnOf "_law_bigger" "_law_bigger" (defArgs s_bigger) (defBody s_bigger) (defScope s_bigger) .none kV13 dc13 pm13 an13 cd13 ct13)
      | 14 => (PySem.W.fnOf "_law_part" "_law_part" (defArgs s_part) (defBody s_part) (defScope s_part) .none kV14 dc14 pm14 an14 cd14 ct14)
      | 15 => (PySem.W.fnOf "_law_best" "_law_best" (defArgs s_best) (defBody s_best) (defScope s_best) .none kV15 dc15 pm15 an15 cd15 ct15)
      | 16 => (PySem.W.fnOf "law" "law" (defArgs s_p_law) (defBody s_p_law) (defScope s_p_law) .none kV16 dc16 pm16 an16 cd16 ct16)
      | _ => (PySem.W.fnOf "is_less" "is_less" (defArgs s_p_is_less) (defBody s_p_is_less) (defScope s_p_is_less) .none kV1 dc1 pm1 an1 cd1 ct1)) := {
    F_p_is_less := F1, g_p_is_less := PySem.W.mg_of X G a1
    b_p_is_less := F1.binds (ps := ["one", "other"]) fun _ _ _ _ _ _ us hl => match us, hl with | [_, _], _ => rfl
    F_p_least := F2, g_p_least := PySem.W.mg_of X G a2
    F_p_greatest := F3, g_p_greatest := PySem.W.mg_of X G a3
    F_feed := F5, g_feed := PySem.W.mg_of X G a5
    b_feed := F5.binds (ps := ["_law_script"]) fun _ _ _ _ _ _ us hl => match us, hl with | [_], _ => rfl
    F_draw := F6, g_draw := PySem.W.mg_of X G a6
    b_draw := F6.binds (ps := ["_law_feed_here", "_law_many"]) fun _ _ _ _ _ _ us hl => match us, hl with | [_, _], _ => rfl
    F_any := F7, g_any := PySem.W.mg_of X G a7
    b_any := F7.binds (ps := ["_law_feed_here", "_law_row"]) fun _ _ _ _ _ _ us hl => match us, hl with | [_, _], _ => rfl
    F_same := F8, g_same := PySem.W.mg_of X G a8
    b_same := F8.binds (ps := ["_law_found", "_law_due"]) fun _ _ _ _ _ _ us hl => match us, hl with | [_, _], _ => rfl
    F_gcd := F9, g_gcd := PySem.W.mg_of X G a9
    b_gcd := F9.binds (ps := ["_law_one", "_law_two"]) fun _ _ _ _ _ _ us hl => match us, hl with | [_, _], _ => rfl
    F_low := F10, g_low := PySem.W.mg_of X G a10
    b_low := F10.binds (ps := ["_law_upper", "_law_lower"]) fun _ _ _ _ _ _ us hl => match us, hl with | [_, _], _ => rfl
    F_under := F11, g_under := PySem.W.mg_of X G a11
    b_under := F11.binds (ps := ["_law_one", "_law_two"]) fun _ _ _ _ _ _ us hl => match us, hl with | [_, _], _ => rfl
    F_lesser := F12, g_lesser := PySem.W.mg_of X G a12
    b_lesser := F12.binds (ps := ["_law_one", "_law_two"]) fun _ _ _ _ _ _ us hl => match us, hl with | [_, _], _ => rfl
    F_bigger := F13, g_bigger := PySem.W.mg_of X G a13
    b_bigger := F13.binds (ps := ["_law_one", "_law_two"]) fun _ _ _ _ _ _ us hl => match us, hl with | [_, _], _ => rfl
    F_part := F14, g_part := PySem.W.mg_of X G a14
    b_part := F14.binds (ps := ["_law_feed_here", "_law_size"]) fun _ _ _ _ _ _ us hl => match us, hl with | [_, _], _ => rfl
    F_best := F15, g_best := PySem.W.mg_of X G a15
    b_best := F15.binds (ps := ["_law_values", "_law_is_top"]) fun _ _ _ _ _ _ us hl => match us, hl with | [_, _], _ => rfl
    F_p_law := F16, g_p_law := PySem.W.mg_of X G a16
    b_p_law := F16.binds (ps := ["_law_script"]) fun _ _ _ _ _ _ us hl => match us, hl with | [_], _ => rfl
    m_int := PySem.W.mg_none_of X G z_int
    m_len := PySem.W.mg_none_of X G z_len
    m_abs := PySem.W.mg_none_of X G z_abs
    m_range := PySem.W.mg_none_of X G z_range
    m_zip := PySem.W.mg_none_of X G z_zip
    m_all := PySem.W.mg_none_of X G z_all
    m_isinstance := PySem.W.mg_none_of X G z_isinstance
    m_bool := PySem.W.mg_none_of X G z_bool
    m_str := PySem.W.mg_none_of X G z_str
    m_tuple := PySem.W.mg_none_of X G z_tuple
    m_list := PySem.W.mg_none_of X G z_list
    m_dict := PySem.W.mg_none_of X G z_dict
  }
  exact ⟨_, fun s v => .of_eq rfl, fun base _ _ => ok_p_law T⟩
end T3
open PySem PySem.W PyProof.Rows
set_option maxHeartbeats 0 in
theorem PySem.Challenge.cw_tiespan_k03_least_and_greatest_holds : PySem.Challenge.rw_tiespan_k03_least_and_greatest.Holds := by
  w_on; o_law; k_head; (case hw => w_witness2)
  k_fill
  refine L2.walk_of (l := PySem.Challenge.rw_tiespan_k03_least_and_greatest) (n := 63) (k := 6) (x := "_law_script") (CX := fun _ => L2.CX0) (sp := fun w => T3.spLaw _) rfl (by decide) rfl ⟨rfl, by decide, by decide⟩ (fun w h Y => PySem.W.kIn_of Y) ?F (fun _ _ a ns hl _ hS => ⟨a, ns, rfl, hS, hl, fun _ => rfl⟩) (fun _ _ _ _ _ h => h)
  case F =>
    intro w mg fa h KX G hmg
    refine' T3.all_mk KX G hmg ?a1 ?l1 ?c1 ?k1 ?a2 ?l2 ?c2 ?k2 ?a3 ?l3 ?c3 ?k3 ?a5 ?l5 ?c5 ?k5 ?a6 ?l6 ?c6 ?k6 ?a7 ?l7 ?c7 ?k7 ?a8 ?l8 ?c8 ?k8 ?a9 ?l9 ?c9 ?k9 ?a10 ?l10 ?c10 ?k10 ?a11 ?l11 ?c11 ?k11 ?a12 ?l12 ?c12 ?k12 ?a13 ?l13 ?c13 ?k13 ?a14 ?l14 ?c14 ?k14 ?a15 ?l15 ?c15 ?k15 ?a16 ?l16 ?c16 ?k16 ?z_int ?z_len ?z_abs ?z_range ?z_zip ?z_all ?z_isinstance ?z_bool ?z_str ?z_tuple ?z_list ?z_dict
    (case a1 => k_is); (case l1 => k_is); (case c1 => k_is); (case k1 => k_is)
    (case a2 => k_is); (case l2 => k_is); (case c2 => k_is); (case k2 => k_is)
    (case a3 => k_is); (case l3 => k_is); (case c3 => k_is); (case k3 => k_is)
    (case a5 => k_is); (case l5 => k_is); (case c5 => k_is); (case k5 => k_is)
    (case a6 => k_is); (case l6 => k_is); (case c6 => k_is); (case k6 => k_is)
    (case a7 => k_is); (case l7 => k_is); (case c7 => k_is); (case k7 => k_is)
    (case a8 => k_is); (case l8 => k_is); (case c8 => k_is); (case k8 => k_is)
    (case a9 => k_is); (case l9 => k_is); (case c9 => k_is); (case k9 => k_is)
    (case a10 => k_is); (case l10 => k_is); (case c10 => k_is); (case k10 => k_is)
    (case a11 => k_is); (case l11 => k_is); (case c11 => k_is); (case k11 => k_is)
    (case a12 => k_is); (case l12 => k_is); (case c12 => k_is); (case k12 => k_is)
    (case a13 => k_is); (case l13 => k_is); (case c13 => k_is); (case k13 => k_is)
    (case a14 => k_is); (case l14 => k_is); (case c14 => k_is); (case k14 => k_is)
    (case a15 => k_is); (case l15 => k_is); (case c15 => k_is); (case k15 => k_is)
    (case a16 => k_is); (case l16 => k_is); (case c16 => k_is); (case k16 => k_is)
    (case z_int => k_is)
    (case z_len => k_is)
    (case z_abs => k_is)
    (case z_range => k_is)
    (case z_zip => k_is)
    (case z_all => k_is)
    (case z_isinstance => k_is)
    (case z_bool => k_is)
    (case z_str => k_is)
    (case z_tuple => k_is)
    (case z_list => k_is)
    (case z_dict => k_is)

import PyProof.Rows.All
import Wide.All
import OpenK.AllK
import Wide.FinOn
import HandS.Base
import HandS.Call
import HandS.List
import HandS.Comp
import HandS.Ends
import HandS.Words
import HandS.WordsList
import HandS.Codes
import HandS.Wide
import HandS.Iter
import HandS.Zip
import HandS.Star
import HandS.More
import HandS.IsInst
import HandS.Conv
import HandS.NoneIn
import HandS.WideBits
import HandS.Defaults
import HandS.Text
import HandS.StrMore
import HandS.Style
import HandS.SetTxt0
import HandS.Set
import HandS.Strs
import HandS.Dict
import HandS.DictComp
import HandS.Deep
import HandS.Finally
import HandS.TryOnly
import HandS.TupMul
import PyProof.ListStr
import PyProof.StrBlock2
import KE.IntTextText
import KE.KDictPairs
import PySem.Challenge.RW_tiespan_k40_programs_run
set_option Elab.async false
set_option linter.all false
set_option maxRecDepth 100000
set_option maxHeartbeats 4000000
namespace EK
open PySem PySem.Spec PyProof.Rows L2
/-! ### list(text); text * number -/
theorem call_list_text {X : Cx} (hc : X.calm = true) : CallR X (.type "list") (fun xs H Q => ∃ z : Str, xs = [.str z] ∧ z.length ≤ sizeLine ∧ ∀ p, H p = none → Q (.ref p) (upd H p (.lst (z.cps.toList.map fun c => V.str ⟨#[c]⟩)))) := by
  intro pn s σ H xs us Q I r h
  obtain ⟨z, e, hz, q⟩ := h
  subst e
  obtain ⟨u, eu, rx⟩ := vals1 r
  subst eu
  obtain ⟨t, rfl⟩ := rx
  refine call_list_str (I.ok.hd hc) z t (fun h' tk acc' c' hkeep hS hacc => ?_) hz
  refine ⟨.ref s.heap.objs.size, upd H s.heap.objs.size (.lst (z.cps.toList.map fun c => V.str ⟨#[c]⟩)), I.laid hkeep (Nat.le_refl _) (show ObjOk X.prog X.w _ _ _ (.lst (z.cps.toList.map fun c => V.str ⟨#[c]⟩)) from ⟨?_, acc'.toList, c', ?_, ?_⟩), rfl, q _ (I.hok.fresh (Nat.le_refl _))⟩
  · rw [List.length_map]
    exact hz
  · refine vals_of_idx _ _ (by rw [List.length_map, Array.length_toList, Array.length_toList, hacc.1]) fun j v hj => ?_
    obtain ⟨c, u, hc2, rfl⟩ := hacc.2 j v (by rw [← Array.getElem?_toList]; exact hj)
    refine ⟨.str ⟨#[c]⟩, ?_, ⟨_, rfl⟩⟩
    rw [List.getElem?_map, Array.getElem?_toList, hc2]
    rfl
  · exact hS
theorem op_mul_str {X : Cx} : OpR X (binaryOp .Mult) (fun x y H Q => ∃ (z : Str) (n : Int), x = .str z ∧ y = .int n ∧ MulOk z n ∧ Q (.str (Txt.mul z n)) H) := by
  intro pn s σ H x y v u Q I rx ry h
  obtain ⟨z, n, rfl, rfl, hz, q⟩ := h
  obtain ⟨t, rfl⟩ := rx
  obtain ⟨t', rfl⟩ := ry
  exact PySem.SB.mul hz fun t' tk => ⟨.str (Txt.mul z n), H, I.tok _, ⟨_, rfl⟩, q⟩
/-! ### sets of texts: what an add keeps -/
open PySem.Froz
structure TxW (P : Program) (w : World) (D : SD) (l : List Str) : Prop where
  ok : TxOk P w D l
  ris : Ris D.2.2.place.toList
  led : w.params.followText "set-order" = true ∨ D.2.2.led = true
theorem tail_keeps {ep : Nat} {es : Array (Int × Value)} {t : SetTable} {b : Bool} (r : Ris t.place.toList) : Ris (tailTx ep es t b).2.2.place.toList ∧ (tailTx ep es t b).2.2.led = t.led := by
  unfold tailTx
  split
  · exact ⟨relayAll_ris t es _, relayAll_led t es _⟩
  · exact ⟨r, rfl⟩
theorem add_keeps {D : SD} {h : Int} {v : Value} (r : Ris D.2.2.place.toList) : Ris (addTx h v D).2.2.place.toList ∧ (addTx h v D).2.2.led = D.2.2.led := by
  have r1 := layNew_ris D.2.2 D.1 h v r
  have l1 := layNew_led D.2.2 D.1 h v
  have key : ∀ t : SetTable, Ris t.place.toList → t.led = D.2.2.led → Ris (if t.plain = true then { t with plain := false } else t).place.toList ∧ (if t.plain = true then { t with plain := false } else t).led = D.2.2.led := fun t a b => by
    split <;> exact ⟨a, b⟩
  obtain ⟨k1, k2⟩ := key _ r1 l1
  obtain ⟨t1, t2⟩ := tail_keeps (ep := D.2.1) (es := (layNew D.2.2 D.1 h v).1) (b := (layNew D.2.2 D.1 h v).2.2.1) k1
  exact ⟨t1, t2.trans k2⟩
theorem TxW.add {P : Program} {w : World} {D : SD} {l : List Str} {k : Str} (u : Tok) (F : TxW P w D l) : TxW P w (addTx (hashStr w k) (.str k u) D) (k :: l) := by
  obtain ⟨a, b⟩ := add_keeps (D := D) (h := hashStr w k) (v := .str k u) F.ris
  exact ⟨add_ok u F.ok, a, F.led.imp id fun z => b.trans z⟩
section
variable {A : Around} {s : Shared} {P : Program} {w : World} {E : Value → Shared → Prop}
/-- a text that is there already -/
theorem add_there {a : Addr} {T : String} {D : SD} {l : List Str} {k : Str} {u : Tok} {Q : Bool → Shared → Prop} (ho : s.heap.get? a = some (sObj T D)) (F : TxOk P w D l) (hk : k ∈ l) (hb : l.length < scanBound)
    (h : Q false s) : wpAny (model P w) A (setAddHashed a (.str k u) (hashStr w k)) Q E s := by
  obtain ⟨es, ep, t⟩ := D
  obtain ⟨el, mem, sz, fit⟩ := F
  obtain ⟨e, he, hp⟩ := (mem k).mp hk
  have small : es.size < scanBound := Nat.lt_of_le_of_lt (Nat.le_of_eq sz) hb
  obtain ⟨j, hj⟩ : ∃ j, List.findIdx? (fun e => (strKind P w).is k e.2) es.toList = some j := by
    cases q : List.findIdx? (fun e => (strKind P w).is k e.2) es.toList with
    | some j => exact ⟨j, rfl⟩
    | none =>
      have c := List.findIdx?_eq_none_iff.mp q e he
      rw [hp] at c
      cases c
  unfold setAddHashed; unfold setAddHashedIn
  refine wpAny_holding (wpAny_bind (wpAny_setState_of ho (ep := ep) (es := es) (t := t) rfl fit ?_))
  dsimp only
  rw [byScan_of rfl small el, if_pos rfl]
  unfold setAddByScan
  refine wpAny_bind (wpAny_bind (wpAny_rule (wpAny_bind (wpAny_setScan_of (knd := strKind P w) (k := k) (is_str k u) ho rfl fit el ?_))))
  rw [hj]
  exact wpAny_pure <| wpAny_pure h
/-- either way -/
def ins (k : Str) (l : List Str) : List Str := if k ∈ l then l else k :: l
theorem add_any {a : Addr} {T : String} {D : SD} {l : List Str} {k : Str} {u : Tok} {Q : Bool → Shared → Prop} (ho : s.heap.get? a = some (sObj T D)) (F : TxW P w D l) (hb : l.length + 1 < scanBound)
    (h : ∀ b h' D', TxW P w D' (ins k l) → h'.get? a = some (sObj T D') → (∀ c o, c ≠ a → s.heap.get? c = some o → h'.get? c = some o) → h'.objs.size = s.heap.objs.size → Q b { s with heap := h' }) : wpAny (model P w) A (setAddHashed a (.str k u) (hashStr w k)) Q E s := by
  by_cases hk : k ∈ l
  · refine add_there ho F.ok hk (by omega) (h false s.heap D ?_ ho (fun _ _ _ e => e) rfl)
    unfold ins
    rw [if_pos hk]
    exact F
  · refine add_x ho F.ok hk hb (h true _ _ ?_ (get_upd _ ho rfl) (fun c o hc e => ?_) ?_)
    · unfold ins
      rw [if_neg hk]
      exact F.add u
    · exact (Heap.get?_update_other _ _ (Ne.symm hc)).trans e
    · exact Heap.size_update _ _ _
end
def insAll : List Str → List Str → List Str
  | [], l => l
  | x :: xs, l => insAll xs (ins x l)
theorem ins_len (x : Str) (l : List Str) : (ins x l).length ≤ l.length + 1 := by
  unfold ins
  split
  · omega
  · exact Nat.le_refl _
theorem ins_mem (x y : Str) (l : List Str) : y ∈ ins x l ↔ y = x ∨ y ∈ l := by
  unfold ins
  split
  · rename_i h
    exact ⟨.inr, fun z => z.elim (fun e => e ▸ h) id⟩
  · exact List.mem_cons
theorem ins_nodup {x : Str} {l : List Str} (h : l.Nodup) : (ins x l).Nodup := by
  unfold ins
  split
  · exact h
  · rename_i n
    exact List.nodup_cons.mpr ⟨n, h⟩
theorem insAll_mem (y : Str) : ∀ xs l : List Str, y ∈ insAll xs l ↔ y ∈ xs ∨ y ∈ l
  | [], l => by simp [insAll]
  | x :: xs, l => by
    show y ∈ insAll xs (ins x l) ↔ _
    rw [insAll_mem y xs, ins_mem, List.mem_cons]
    constructor
    · rintro (h | h | h)
      · exact .inl (.inr h)
      · exact .inl (.inl h)
      · exact .inr h
    · rintro ((h | h) | h)
      · exact .inr (.inl h)
      · exact .inl h
      · exact .inr (.inr h)
theorem insAll_nodup : ∀ (xs : List Str) {l : List Str}, l.Nodup → (insAll xs l).Nodup
  | [], _, h => h
  | _ :: xs, _, h => insAll_nodup xs (ins_nodup h)
theorem insAll_len : ∀ (xs l : List Str), (insAll xs l).length ≤ xs.length + l.length
  | [], l => by simp [insAll]
  | x :: xs, l => by
    have h1 := insAll_len xs (ins x l)
    have h2 := ins_len x l
    show (insAll xs (ins x l)).length ≤ xs.length + 1 + l.length
    omega
section
variable {prog : Program} {w : World} {A : Around} {R : Result → Shared → Prop} {I : Addr} {fp wr : List Addr} {G : Array GenState → Array GenState → Prop} {n : Nat} {Pv : Nat → Value → Prop} {St : Nat → Shared → Prop}
theorem upd_loop (W : WalksS prog w A.in1 I fp wr G n Pv St) (a : Addr) (hf : a ∉ fp) (xs : List Str) (hl : xs.length = n) (hv : ∀ i v, Pv i v → ∃ t, v = .str (xs.getD i Str.empty) t) (hb : n + 1 < scanBound) :
    ∀ (k i : Nat) (s : Shared) (D : SD) (l : List Str), n - i = k → i ≤ n → l.length ≤ i → St i s → s.heap.get? a = some (sObj "set" D) → TxW prog w D l →
      (∀ s' D', Moved (a :: wr) G s s' → s'.heap.get? a = some (sObj "set" D') → TxW prog w D' (insAll (xs.drop i) l) → R (.ok (.ret .none)) s') →
      codeAny (model prog w) A (.builtin "set.update.loop" ⟨[.ref a, .ref I], []⟩) R s := by
  have haw : a ∉ wr := fun h => hf (W.sub _ h)
  have more : ∀ b ∈ wr, b ∈ a :: wr := fun b h => List.mem_cons_of_mem _ h
  intro k
  induction k with
  | zero =>
    intro i s D l hk hi _ hst ho F hR
    have e : i = n := by omega
    refine codeAny_builtin PyProof.Rows.F.entry_set_update_loop (by
      rw [(Around.under_plainId PyProof.Rows.F.plain_set_update_loop _)]
      refine wpAny_bind (W.done s _ _ (e ▸ hst) fun s' hm => wpAny_pure (hR s' D (hm.mono more) (hm.heap a _ haw ho) ?_))
      rw [e, ← hl, List.drop_length]
      exact F)
  | succ k ih =>
    intro i s D l hk hi hll hst ho F hR
    have lt : i < n := by omega
    refine codeAny_builtin PyProof.Rows.F.entry_set_update_loop (by
      rw [(Around.under_plainId PyProof.Rows.F.plain_set_update_loop _)]
      refine wpAny_bind (W.item i s _ _ lt hst fun v s1 hp hst1 hm => ?_)
      obtain ⟨t, rfl⟩ := hv i v hp
      have ho1 := hm.heap a _ haw ho
      show wpAny _ A.in1 (holding [Value.str (xs.getD i Str.empty) t] (setAdd a (.str (xs.getD i Str.empty) t)) >>= _) _ _ s1
      refine wpAny_bind (wpAny_holding (by
        unfold setAdd
        refine wpAny_holding (wpAny_bind ((strKind prog w).pyHash (k := xs.getD i Str.empty) (is_str _ _) ?_))
        refine add_any (s := { s1 with toks := s1.toks + 1 }) ho1 F (by omega) fun b h2 D2 F2 ho2 oth sz => ?_
        have hd : xs.drop i = xs.getD i Str.empty :: xs.drop (i + 1) := by
          have : i < xs.length := by omega
          rw [List.drop_eq_getElem_cons this]
          congr 1
          rw [List.getD_eq_getElem?_getD, List.getElem?_eq_getElem this]
          rfl
        have il := ins_len (xs.getD i Str.empty) l
        refine wpAny_pure ⟨plainId_quiet PyProof.Rows.F.plain_set_update_loop _, ih (i + 1) _ D2 _ (by omega) lt (by omega) (W.frame _ s1 _ _ hst1 (Nat.le_succ _) fun b hb o e => oth b o (fun z => hf (z ▸ hb)) e) ho2 F2 fun s3 D3 hm3 ho3 F3 => ?_⟩
        refine hR s3 D3 (Moved.trans W.gtrans ((hm.mono more).then_heap (Nat.le_succ _) fun b o hb e => oth b o (fun z => hb (by rw [z]; exact List.mem_cons_self)) e) hm3) ho3 ?_
        rw [hd]
        exact F3)))
end
section
variable {A : Around} {s : Shared} {prog : Program} {w : World} {E : Value → Shared → Prop}
/-- a new set's table -/
abbrev tb0 (w : World) : SetTable := .fresh 0 0 (!w.params.followText "set-order")
theorem new_keeps (P : Program) (w : World) : TxW P w (#[], 0, tb0 w) [] := by
  refine ⟨TxOk.nil (by rfl), List.Pairwise.nil, ?_⟩
  show (_ ∨ (!w.params.followText "set-order") = true)
  cases w.params.followText "set-order" <;> simp
theorem code_new1 (x : Value) {Q₁ : Value → Shared → Prop} (h : Q₁ (.ref s.heap.objs.size) { s with heap := s.heap.push (sObj "set" (#[], 0, tb0 w)) }) :
    codeAny (model prog w) A (.call (.builtin "set.__new__") ⟨[.type "set", x], []⟩) (wants Q₁ E) s := by
  refine codeAny_of_tree (wpAny_bind (wpAny_of_eq (PySem.F.newCall_set_1 x) (wpAny_pure ⟨plainId_quiet PySem.F.plain_set_new _, codeAny_builtin PySem.F.entry_set_new (by
    rw [Around.under_plainId PySem.F.plain_set_new _]
    unfold Builtin.«set.__new__»; unfold Builtin.Frozenset.newClass
    have self := PySem.sub_set_self
    obtain ⟨hp0, g0, d0, tk0, os0⟩ := s
    dsimp only
    wp_walk
    refine wpAny_askSetting (wpAny_pure (by
      dsimp only
      simp only [newObj]
      exact wpAny_bind (wpAny_alloc (wpAny_pure (wpAny_pure h))))))⟩)))
theorem str_at : ∀ {us : List Value} {ys : List Str}, StrsAre us ys → ∀ (i : Nat) (v : Value), us[i]? = some v → ∃ t, v = .str (ys.getD i Str.empty) t
  | _, _, .cons y t _, 0, v, e => ⟨t, (Option.some.inj e).symm⟩
  | _, _, .cons _ _ r, i + 1, v, e => str_at r i v e
theorem call_set_texts {l : Addr} {items : Array Value} {xs : List Str} {Q : Value → Shared → Prop} (hh : A.handled = none) (hl : s.heap.IsList l items) (hi : StrsAre items.toList xs) (hb : xs.length + 1 < scanBound)
    (h : ∀ (h' : Heap) (tk : Nat) (D : SD), TxW prog w D (insAll xs []) → h'.get? s.heap.objs.size = some (sObj "set" D) → (∀ b o, b < s.heap.objs.size → s.heap.get? b = some o → h'.get? b = some o) → Q (.ref s.heap.objs.size) { s with heap := h', toks := tk }) :
    (wpAny (model prog w) A (call (.type "set") [.ref l]) Q E s) := by
  obtain ⟨c, tl, mro⟩ := PySem.F.called_set.mro
  have made := PySem.F.called_set.made; have subs := PySem.F.called_set.sub
  refine wpAny_call (codeAny_of_tree (wpAny_pure ⟨Code.quiet_builtin _ (by decide +kernel), codeAny_builtin PySem.F.entry_type_call (by
    rw [(Around.under_plain (weight_type_call_type "set" [.ref l] []) rfl)]
    have n1 := PySem.F.called_set.notType; have n2 := PySem.F.called_set.canCreate; have n3 := PySem.F.typeCall_set_1 (.ref l)
    repeat (any_goals first | assumption | wp_step)
    refine codeAny_mono (code_new1 (.ref l) (E := E) (Q₁ := fun obj s1 => obj = .ref s.heap.objs.size ∧ s1 = { s with heap := s.heap.push (sObj "set" (#[], 0, tb0 w)) }) ⟨rfl, rfl⟩) fun r s1 hr => ?_
    match r, hr with
    | .error e, hr => exact hr
    | .ok (.ret obj), hr =>
      obtain ⟨rfl, rfl⟩ := hr
      have hN : (s.heap.push (sObj "set" (#[], 0, tb0 w))).get? s.heap.objs.size = some (sObj "set" (#[], 0, tb0 w)) := Heap.get?_push_size _ rfl
      have hT : Shared.TypeIs { s with heap := s.heap.push (sObj "set" (#[], 0, tb0 w)) } (.ref s.heap.objs.size) "set" := ⟨_, hN, rfl⟩
      have i1 := PySem.F.called_set.init.lookup; have i2 := PySem.F.called_set.init.bind (.ref s.heap.objs.size)
      repeat (any_goals first | assumption | wp_step)
      refine codeAny_mono (codeAny_call_builtin (R := wants (fun r s2 => r = .none ∧ ∃ h' tk D, s2 = { s with heap := h', toks := tk } ∧ TxW prog w D (insAll xs []) ∧ h'.get? s.heap.objs.size = some (sObj "set" D) ∧
          (∀ b o, b < s.heap.objs.size → s.heap.get? b = some o → h'.get? b = some o)) E) PySem.F.called_set.init.plain PySem.F.entry_set_init (check_set_init_1 hT ?_)) fun r2 s2 hr2 => ?_
      · obtain ⟨⟨oc, od, da, os⟩, ho, hc, nl, hd⟩ := hl
        simp only at hc hd
        subst hc hd
        have ho2 : (s.heap.push (sObj "set" (#[], 0, tb0 w))).get? l = some { cls := .type "list", dict := od, data := .seq items nl, slots := os } := Heap.get?_push_of_some _ ho
        have q1 := PySem.F.sub_list_set; have q2 := PySem.F.sub_list_frozenset; have q3 : (Value.type "list" == Value.type "dict") = false := by decide
        have hl1 : (s.heap.push (sObj "set" (#[], 0, tb0 w))).IsList l items := ⟨_, ho2, rfl, nl, rfl⟩
        unfold Builtin.«set.__init__»; unfold noKeywords; unfold Builtin.Frozenset.updateFrom
        generalize hPI : pyIter = PI
        wp_walk
        subst hPI
        refine wpAny_pyIter_list hl1 (wpAny_bind (wpAny_runValue ?_))
        have lS : l < s.heap.objs.size := Heap.lt_size ho
        have h3 : A.in1.in1.in1.handled = none := by simp [hh]
        have neI : l ≠ (s.heap.push (sObj "set" (#[], 0, tb0 w))).objs.size := by
          rw [Heap.size_push]
          exact Nat.ne_of_lt (Nat.lt_succ_of_lt lS)
        have nfp : s.heap.objs.size ∉ [(s.heap.push (sObj "set" (#[], 0, tb0 w))).objs.size, l] := by
          rw [Heap.size_push]
          intro z
          rcases (List.mem_cons.mp z) with z | z
          · omega
          · rw [List.mem_singleton] at z
            exact absurd z (Nat.ne_of_gt lS)
        have len : xs.length = items.size := by rw [← StrsAre.len_eq hi, Array.length_toList]
        refine upd_loop ((Walks.list h3 _ l neI items).toS) s.heap.objs.size nfp xs len (fun i v hv => str_at hi i v (by rw [Array.getElem?_toList]; exact hv)) (by omega) (items.size - 0) 0 _ (#[], 0, tb0 w) [] (by omega) (Nat.zero_le _) (Nat.le_refl _)
          ⟨⟨_, Heap.get?_push_size _ rfl, rfl, rfl⟩, hl1.push _⟩ (Heap.get?_push_of_some _ hN) (new_keeps _ _) fun s3 D3 hm ho3 F3 => ?_
        obtain ⟨h', g', d', tk', os'⟩ := s3
        obtain rfl : g' = s.gens := hm.gens
        obtain rfl : d' = s.drawn := hm.drawn
        obtain rfl : os' = s.os := hm.os
        refine wpAny_pure (wpAny_pure ⟨rfl, h', tk', D3, rfl, F3, ho3, fun b o hb e => hm.heap b o (fun z => ?_) (Heap.get?_push_of_some _ (Heap.get?_push_of_some _ e))⟩)
        rcases (List.mem_cons.mp z) with z | z
        · exact absurd z (Nat.ne_of_lt hb)
        · rw [List.mem_singleton, Heap.size_push] at z
          exact absurd z (Nat.ne_of_lt (Nat.lt_succ_of_lt hb))
      · match r2, hr2 with
        | .error e, hr2 => exact hr2
        | .ok (.ret v), hr2 =>
          obtain ⟨rfl, h', tk, D, rfl, F, ho3, hold⟩ := hr2
          repeat (any_goals first | assumption | wp_step)
          exact h _ _ _ F ho3 hold
        | .ok .next, hr2 => exact hr2.elim
        | .ok .brk, hr2 => exact hr2.elim
        | .ok .cont, hr2 => exact hr2.elim
    | .ok .next, hr => exact hr.elim
    | .ok .brk, hr => exact hr.elim
    | .ok .cont, hr => exact hr.elim)⟩))
end
/-- the set at a holds the texts l -/
def SetW (P : Program) (w : World) (a : Addr) (l : List Str) : HO := .ext fun h => ∃ D, h.get? a = some (sObj "set" D) ∧ TxW P w D l
theorem setW_ok {P : Program} {w : World} {H : Hp} {h : Heap} {a : Addr} {D : SD} {l : List Str} (ho : h.get? a = some (sObj "set" D)) (F : TxW P w D l) : ObjOk P w H h a (SetW P w a l) :=
  ⟨⟨D, ho, F⟩, ⟨_, ho⟩, fun h1 h2 z k => by
    obtain ⟨D', e, F'⟩ := z
    exact ⟨D', k _ e, F'⟩⟩
theorem perm_of : ∀ (l ys : List Str), l.Nodup → (∀ y ∈ l, y ∈ ys) → ys.length = l.length → ys.Perm l
  | [], ys, _, _, e => by
    rw [List.length_eq_zero_iff.mp e]
  | y :: l, ys, n, h, e => by
    obtain ⟨n1, n2⟩ := List.nodup_cons.mp n
    obtain ⟨p, q, rfl⟩ := List.append_of_mem (h y List.mem_cons_self)
    have pm : (p ++ y :: q).Perm (y :: (p ++ q)) := List.perm_middle
    refine pm.trans (List.Perm.cons y (perm_of l (p ++ q) n2 (fun z hz => ?_) ?_))
    · have zy : z ≠ y := fun c => n1 (c ▸ hz)
      rcases List.mem_append.mp (h z (List.mem_cons_of_mem _ hz)) with c | c
      · exact List.mem_append_left _ c
      · rcases List.mem_cons.mp c with c | c
        · exact absurd c zy
        · exact List.mem_append_right _ c
    · simp only [List.length_append, List.length_cons] at e ⊢
      omega
theorem strs_are : ∀ (vs : List Value), (∀ v ∈ vs, ∃ y t, v = Value.str y t) → ∃ ys, StrsAre vs ys
  | [], _ => ⟨[], .nil⟩
  | v :: vs, h => by
    obtain ⟨y, t, rfl⟩ := h _ List.mem_cons_self
    obtain ⟨ys, r⟩ := strs_are vs fun u hu => h u (List.mem_cons_of_mem _ hu)
    exact ⟨y :: ys, .cons y t r⟩
theorem strs_mem : ∀ {vs : List Value} {ys : List Str}, StrsAre vs ys → ∀ y t, Value.str y t ∈ vs → y ∈ ys
  | _, _, .cons z u r, y, t, h => by
    rcases (List.mem_cons.mp h) with e | e
    · injection e with e1 e2
      rw [e1]
      exact List.mem_cons_self
    · exact List.mem_cons_of_mem _ (strs_mem r y t e)
section
variable {X : Cx}
/-- set(xs), xs a list of texts -/
theorem cr_setS (hc : X.calm = true) : CallR X (.type "set") (fun vs H Q => ∃ (p : Addr) (ys : List Str), vs = [.ref p] ∧ SqL X.K H p (ys.map V.str) ∧ ys.length ≤ 1000 ∧ ∀ q, H q = none → Q (.ref q) (upd H q (SetW X.prog X.w q (insAll ys [])))) := by
  intro pn s σ H vs us Q I r h
  obtain ⟨p, ys, rfl, hq, hz, q⟩ := h
  rw [Vals.ref1 r]
  obtain ⟨its, rv, pl, _⟩ := I.list hq
  refine call_set_texts (I.ok.hd hc) pl.isList (by simpa using L2.strsAre_of rv) (by unfold scanBound; omega) fun h' tk D F ho keep => ?_
  exact ⟨.ref _, _, I.laid (t' := tk) (fun b o e => keep b o (Heap.lt_size e) e) (Nat.le_refl _) (setW_ok ho F), rfl, q _ (I.hok.fresh (Nat.le_refl _))⟩
/-- sorted(S), S a set of texts -/
theorem cr_sortedW (hc : X.calm = true) : CallR X (.builtin "sorted") (fun vs H Q => ∃ (a : Addr) (l : List Str), vs = [.ref a] ∧ H a = some (SetW X.prog X.w a l) ∧ l.Nodup ∧ l.length < 64 ∧
    ∀ (ys : List Str) (p : Addr), ys.Perm l → sortedS ys = true → H p = none → Q (.ref p) (upd H p (.lst (ys.map V.str)))) := by
  intro pn s σ H vs us Q I r h
  obtain ⟨a, l, rfl, ha, nd, l64, q⟩ := h
  rw [Vals.ref1 r]
  obtain ⟨⟨es, ep, t⟩, ho, F⟩ := (I.hok a _ ha).1
  have sz : es.size = l.length := F.ok.sz
  have small : es.size < scanBound := by unfold scanBound; omega
  refine Calls.call_function_entry PyProof.Rows.kind_sorted PyProof.Rows.plain_sorted PyProof.Rows.entry_sorted (PyProof.Rows.args_sorted1 _) (by
    unfold Builtin.«sorted»
    refine wpAny_bind (m := checkCount "sorted" 1 1 _) (wpAny_pure (wpAny_bind (collect_set (A := X.A.in1) (I.ok.hd hc) ⟨_, ho, rfl, rfl⟩ F.ok.fit small F.ris F.led fun s1 out k1 hz g1 o1 pm => ?_)))
    have all : ∀ v ∈ out, ∃ y u, v = Value.str y u := fun v hv => by
      obtain ⟨e, he, rfl⟩ := List.mem_map.mp (pm.mem_iff.mp hv)
      obtain ⟨⟨k, hk, _⟩, _⟩ := F.ok.el e he
      obtain ⟨u, ev⟩ := Value.isStrOf_shape (x := k) (v := e.2) hk
      exact ⟨k, u, ev⟩
    obtain ⟨zs, hS⟩ := strs_are out all
    have len : out.length = es.size := by rw [pm.length_eq, List.length_map, Array.length_toList]
    have zl : zs.length = l.length := by rw [← hS.len_eq, len, sz]
    have zp : zs.Perm l := perm_of l zs nd (fun y hy => by
      obtain ⟨e, he, z⟩ := (F.ok.mem y).mp hy
      obtain ⟨u, ev⟩ := Value.isStrOf_shape (x := y) (v := e.2) z
      refine strs_mem hS y u (pm.mem_iff.mpr ?_)
      rw [← ev]
      exact List.mem_map.mpr ⟨e, he, rfl⟩) zl
    have o64 : out.length < 64 := by rw [len, sz]; exact l64
    have hoL : (s1.heap.push (seqObj "list" out.toArray 0)).get? s1.heap.objs.size = some (seqObj "list" out.toArray 0) := Heap.get?_push_size _ rfl
    refine wpAny_bind (wpAny_newList (wpAny_bind (wpAny_holding (wpAny_call_entry PyProof.Rows.slot_list_sort ⟨_, hoL, rfl⟩ PyProof.Rows.entry_list_sort
      (list_sort_treeK strKind_oneLt (s := { s1 with heap := s1.heap.push (seqObj "list" out.toArray 0) }) hoL hS.keysOf (fun v₁ v₂ rest e => keyKind_strs (by rw [← e]; exact hS)) o64 fun st' hp hs => ⟨_, rfl, by
        obtain ⟨ys, r1, r2, r3⟩ := sorted_out_str hS hp hs
        obtain ⟨c, hc2⟩ := PyProof.Rows.sortedHeap_at (vs := out) (out := (arrOf st').map (·.2)) hoL
        have hn : H s1.heap.objs.size = none := I.hok.fresh hz
        have ylen : (ys.map V.str).length ≤ sizeLine := by
          rw [List.length_map, r2.length_eq, zl]
          exact Nat.le_trans (Nat.le_of_lt l64) (by decide)
        have k2 : ∀ b u, s.heap.get? b = some u → (PyProof.Rows.sortedHeap (s1.heap.push (seqObj "list" out.toArray 0)) s1.heap.objs.size out ((arrOf st').map (·.2))).get? b = some u := fun b u e => by
          have lt := Heap.lt_size (k1 b u e)
          rw [PyProof.Rows.sortedHeap_old (Nat.ne_of_lt lt) (by rw [size_push']; exact Nat.lt_succ_of_lt lt)]
          exact Heap.get?_push_of_some _ (k1 b u e)
        obtain ⟨hp1, gn1, dr1, tk1, os1⟩ := s1
        dsimp only at g1 o1 hn k2 hc2 ⊢
        subst g1 o1
        refine wpAny_pure ⟨_, rfl, .ref hp1.objs.size, upd H hp1.objs.size (.lst (ys.map V.str)), ?_, rfl, q ys _ (r2.trans zp) r3 hn⟩
        exact I.call (ch := []) (Un.laid k2 hz hn) (I.hok.laid k2 hz ⟨ylen, ((arrOf st').map (·.2)).toList, c, vals_of_strs r1, by rw [Array.toArray_toList]; exact hc2⟩) I.bare (fun _ z => nomatch z)⟩) (PyProof.Rows.args_list_sort _)))) (by rw [sizeLine_eq]; omega)))
end
/-! ### names: the plain mathematics -/
def lowc (c : Nat) : Bool := decide (97 ≤ c) && decide (c ≤ 122)
def upc (c : Nat) : Bool := decide (65 ≤ c) && decide (c ≤ 90)
theorem uni_alpha : ∀ c : Nat, c < 128 → Unicode.isAlpha c = (lowc c || upc c) := by decide +kernel
theorem uni_lower : ∀ c : Nat, c < 128 → Unicode.isLower c = lowc c := by decide +kernel
theorem uni_upper : ∀ c : Nat, c < 128 → (Unicode.isUpper c || Unicode.isTitle c) = upc c := by decide +kernel
/-- the letters of a name -/
def letB (a : List Nat) : Bool := !a.isEmpty && a.all lowc
theorem lower_letters (a : List Nat) : (Txt.isascii (SX.S a) && (Txt.isalpha (SX.S a) && Txt.islower (SX.S a))) = letB a := by
  have e1 : Txt.isascii (SX.S a) = a.all (fun c => decide (c < 128)) := by
    unfold Txt.isascii
    rw [← Array.all_toList]
  have e2 : Txt.isalpha (SX.S a) = (!a.isEmpty && a.all Unicode.isAlpha) := by
    unfold Txt.isalpha
    rw [← Array.all_toList, SX.S_len]
    cases a <;> rfl
  have e3 : Txt.islower (SX.S a) = (a.any Unicode.isLower && !a.any fun c => Unicode.isUpper c || Unicode.isTitle c) := by
    unfold Txt.islower
    rw [← Array.any_toList, ← Array.any_toList]
  rw [e1, e2, e3]
  unfold letB
  cases h : a.all (fun c => decide (c < 128))
  · rw [Bool.false_and]
    symm
    rw [Bool.and_eq_false_iff]
    refine .inr (Bool.eq_false_iff.mpr fun z => ?_)
    have z2 := List.all_eq_true.mp z
    have : a.all (fun c => decide (c < 128)) = true := List.all_eq_true.mpr fun c hc => decide_eq_true (by
      have q := z2 c hc
      unfold lowc at q
      rw [Bool.and_eq_true, decide_eq_true_eq, decide_eq_true_eq] at q
      omega)
    rw [h] at this
    cases this
  · rw [Bool.true_and]
    have h3 : ∀ c ∈ a, c < 128 := fun c hc => of_decide_eq_true (List.all_eq_true.mp h c hc)
    have a1 : a.all Unicode.isAlpha = a.all (fun c => lowc c || upc c) := by
      rw [Bool.eq_iff_iff, List.all_eq_true, List.all_eq_true]
      exact ⟨fun q c hc => by rw [← uni_alpha c (h3 c hc)]; exact q c hc, fun q c hc => by rw [uni_alpha c (h3 c hc)]; exact q c hc⟩
    have a2 : a.any Unicode.isLower = a.any lowc := by
      rw [Bool.eq_iff_iff, List.any_eq_true, List.any_eq_true]
      exact ⟨fun ⟨c, hc, q⟩ => ⟨c, hc, by rw [← uni_lower c (h3 c hc)]; exact q⟩, fun ⟨c, hc, q⟩ => ⟨c, hc, by rw [uni_lower c (h3 c hc)]; exact q⟩⟩
    have a3 : (a.any fun c => Unicode.isUpper c || Unicode.isTitle c) = a.any upc := by
      rw [Bool.eq_iff_iff, List.any_eq_true, List.any_eq_true]
      exact ⟨fun ⟨c, hc, q⟩ => ⟨c, hc, by rw [← uni_upper c (h3 c hc)]; exact q⟩, fun ⟨c, hc, q⟩ => ⟨c, hc, by rw [uni_upper c (h3 c hc)]; exact q⟩⟩
    rw [a1, a2, a3]
    have dis : ∀ c : Nat, lowc c = true → upc c = false := fun c q => by
      unfold lowc at q
      unfold upc
      rw [Bool.and_eq_true, decide_eq_true_eq, decide_eq_true_eq] at q
      rw [Bool.and_eq_false_iff, decide_eq_false_iff_not, decide_eq_false_iff_not]
      omega
    rw [Bool.eq_iff_iff]
    simp only [Bool.and_eq_true, Bool.not_eq_true', List.any_eq_true, List.all_eq_true, Bool.or_eq_true]
    constructor
    · rintro ⟨⟨n, al⟩, _, nu⟩
      refine ⟨n, fun c hc => ?_⟩
      rcases al c hc with q | q
      · exact q
      · exfalso
        have : a.any upc = true := List.any_eq_true.mpr ⟨c, hc, q⟩
        rw [nu] at this
        cases this
    · rintro ⟨n, al⟩
      refine ⟨⟨n, fun c hc => .inl (al c hc)⟩, ?_, ?_⟩
      · cases a with
        | nil => cases n
        | cons c r => exact ⟨c, List.mem_cons_self, al c List.mem_cons_self⟩
      · refine Bool.eq_false_iff.mpr fun q => ?_
        obtain ⟨c, hc, q⟩ := List.any_eq_true.mp q
        rw [dis c (al c hc)] at q
        cases q
/-- without one apostrophe at the end -/
def cutQ (a : List Nat) : List Nat := if a.getLast? = some 39 then a.dropLast else a
def nameB (a : List Nat) : Bool := decide ((cutQ a).length ≤ 6) && letB (cutQ a)
theorem last_at (b : List Nat) (c : Nat) : PySem.Builtin.Str.subAt (SX.S (b ++ [c])) (SX.S [39]) ((SX.S (b ++ [c])).length - (SX.S [39]).length) = decide (c = 39) := by
  have e : (SX.S (b ++ [c])).cps.extract ((SX.S (b ++ [c])).length - (SX.S [39]).length) ((SX.S (b ++ [c])).length - (SX.S [39]).length + (SX.S [39]).length) = [c].toArray := by
    rw [SX.S_len, SX.S_len, List.length_append]
    simp [List.extract]
  show ((SX.S (b ++ [c])).cps.extract ((SX.S (b ++ [c])).length - (SX.S [39]).length) ((SX.S (b ++ [c])).length - (SX.S [39]).length + (SX.S [39]).length) == (SX.S [39]).cps) = _
  rw [e]
  by_cases h : c = 39
  · subst h
    rfl
  · rw [decide_eq_false h, beq_eq_false_iff_ne]
    intro z
    exact h (List.cons.inj (congrArg Array.toList z)).1
theorem rem_quote (a : List Nat) : Txt.removesuffix (SX.S a) (SX.S [39]) = SX.S (cutQ a) := by
  have e := eq_of_beq (PyProof.Rows.removesuffix_closes (SX.S a) (SX.S [39]))
  rw [e]
  rcases List.eq_nil_or_concat a with rfl | ⟨b, c, rfl⟩
  · rfl
  · rw [List.concat_eq_append, last_at]
    have e1 : decide (0 + (SX.S [39]).length ≤ (SX.S (b ++ [c])).length) = true := by
      rw [SX.S_len, SX.S_len, List.length_append]
      exact decide_eq_true (by show 0 + 1 ≤ b.length + 1; omega)
    rw [e1, Bool.true_and]
    unfold cutQ
    rw [List.getLast?_append, List.getLast?_singleton, Option.some_or, List.dropLast_concat]
    by_cases h : c = 39
    · subst h
      rw [decide_eq_true rfl, if_pos rfl, if_pos rfl]
      refine TL.ext_tl ?_
      show ((b ++ [39]).drop 0).take ((((SX.S (b ++ [39])).length : Nat) : Int) - (((SX.S [39]).length : Nat) : Int) - 0).toNat = b
      rw [SX.S_len, SX.S_len, List.length_append, List.drop_zero]
      have : ((((b.length + [39].length : Nat)) : Int) - (([39] : List Nat).length : Nat) - 0).toNat = b.length := by
        show (((b.length + 1 : Nat) : Int) - 1 - 0).toNat = b.length
        omega
      rw [this, List.take_left]
    · rw [decide_eq_false h, if_neg (by decide), if_neg (fun z => h (Option.some.inj z))]
/-! ### drawn words: the plain mathematics -/
abbrev ABC : Str := Str.ofString "abcdefghijklmnopqrstuvwxyz"
theorem abc_nat : ∀ n : Nat, n < 26 → L2.atI ABC.cps.toList (n : Int) = some (97 + n) := by decide +kernel
theorem abc_at {r : Int} (h0 : 0 ≤ r) (h1 : r < 26) : L2.atI ABC.cps.toList r = some (97 + r.toNat) := by
  obtain ⟨n, rfl⟩ := Int.eq_ofNat_of_zero_le h0
  rw [Int.toNat_natCast]
  exact abc_nat n (by omega)
theorem low_abc {n : Nat} (h : n < 26) : lowc (97 + n) = true := by
  unfold lowc
  rw [decide_eq_true (by omega), decide_eq_true (by omega)]
  rfl
theorem mul_one1 {x : Str} (hx : x.length = 1) {n : Int} (h1 : n ≤ 8) (h0 : -8 ≤ n) : MulOk x n := by
  unfold MulOk
  rw [hx]
  obtain ⟨k, rfl⟩ : ∃ k : Nat, n = (k : Int) - 8 := ⟨(n + 8).toNat, by omega⟩
  have : ∀ k : Nat, k < 17 → (decide (((k : Int) - 8) < -(2 ^ 63 : Int)) || decide (((k : Int) - 8) ≥ 2 ^ 63)) = false ∧ (¬ ((k : Int) - 8) < 1 → (((k : Int) - 8) == 1 || (1 : Nat) == 0) = false → ¬ (((1 : Nat) : Int) > (2 ^ 63 - 1) / ((k : Int) - 8))) ∧
    (¬ ((k : Int) - 8) < 1 → (((k : Int) - 8) == 1 || (1 : Nat) == 0) = false → PySem.Builtin.Str.tooLong (1 * ((k : Int) - 8).toNat) = false) := by decide +kernel
  exact this k (by omega)
theorem fold_rep (c : Nat) : ∀ (k : Nat) (acc : Array Nat), (List.replicate k (#[c] : Array Nat)).foldl (· ++ ·) acc = acc ++ (List.replicate k c).toArray
  | 0, acc => by simp
  | k + 1, acc => by
    rw [List.replicate_succ, List.foldl_cons, fold_rep c k, List.replicate_succ]
    apply Array.toList_inj.mp
    simp
theorem mul_rep (c : Nat) (n : Int) : Txt.mul (SX.S [c]) n = SX.S (List.replicate n.toNat c) := by
  unfold Txt.mul
  by_cases h : n < 1
  · rw [if_pos h, show n.toNat = 0 by omega]
    rfl
  · rw [if_neg h]
    by_cases h1 : n = 1
    · subst h1
      rfl
    · have : (n == 1 || (SX.S [c]).length == 0) = false := by
        rw [beq_eq_false_iff_ne.mpr h1]
        rfl
      rw [this, if_neg (by decide)]
      unfold SX.S
      have e : (List.replicate n.toNat (⟨[c].toArray⟩ : Str).cps) = List.replicate n.toNat (#[c] : Array Nat) := rfl
      rw [e, fold_rep]
      simp
theorem cut_last (a : List Nat) {k : Nat} (h : a.length ≤ k) (hk : 0 < k) : L2.cutS (SX.S a) (some (-(k : Int))) none = SX.S a := by
  unfold L2.cutS
  have e : HT.sIx (SX.S a).length 0 (some (-(k : Int))) = 0 := by
    rw [SX.S_len]
    unfold HT.sIx
    simp
    omega
  rw [HT.sIx_none, e, SX.S_len]
  refine TL.ext_tl ?_
  show (a.drop 0).take (a.length - 0) = a
  rw [List.drop_zero, Nat.sub_zero, List.take_length]
theorem cut_to (a : List Nat) (k : Nat) : L2.cutS (SX.S a) none (some (k : Int)) = SX.S (a.take k) := by
  unfold L2.cutS
  rw [HT.sIx_none, HT.sIx_nat, SX.S_len, Nat.sub_zero]
  refine TL.ext_tl ?_
  show (a.drop 0).take (min k a.length) = a.take k
  rw [List.drop_zero]
  by_cases h : k ≤ a.length
  · rw [Nat.min_eq_left h]
  · rw [Nat.min_eq_right (by omega), List.take_of_length_le (Nat.le_refl _), List.take_of_length_le (by omega)]
theorem cut_from (a : List Nat) (k : Nat) : L2.cutS (SX.S a) (some (k : Int)) none = SX.S (a.drop k) := by
  unfold L2.cutS
  rw [HT.sIx_none, HT.sIx_nat, SX.S_len]
  refine TL.ext_tl ?_
  show (a.drop (min k a.length)).take (a.length - min k a.length) = a.drop k
  by_cases h : k ≤ a.length
  · rw [Nat.min_eq_left h, List.take_of_length_le (by rw [List.length_drop]; exact Nat.le_refl _)]
  · rw [Nat.min_eq_right (by omega), List.drop_of_length_le (Nat.le_refl _), List.drop_of_length_le (by omega), List.take_nil]
/-- a word of one to six letters -/
def LW (a : List Nat) : Prop := a ≠ [] ∧ a.length ≤ 6 ∧ a.all lowc = true
theorem LW.put {a : List Nat} {c : Nat} {k : Nat} (h : a.length ≤ 5) (ha : a.all lowc = true) (hc : lowc c = true) : LW (a.take k ++ [c] ++ a.drop k) := by
  refine ⟨by simp, ?_, ?_⟩
  · simp only [List.length_append, List.length_take, List.length_drop, List.length_singleton]
    omega
  · rw [List.all_append, List.all_append]
    have e := List.all_eq_true.mp ha
    rw [List.all_eq_true.mpr fun x hx => e x (List.mem_of_mem_take hx), List.all_eq_true.mpr fun x hx => e x (List.mem_of_mem_drop hx)]
    simp [hc]
theorem LW.rep {a : List Nat} {c n : Nat} (ha : a.all lowc = true) (hc : lowc c = true) (n1 : 1 ≤ n) (n4 : n ≤ 5) : LW (a.take 1 ++ List.replicate n c) := by
  refine ⟨?_, ?_, ?_⟩
  · intro z
    have := congrArg List.length z
    rw [List.length_append, List.length_replicate] at this
    simp at this
    omega
  · simp only [List.length_append, List.length_take, List.length_replicate]
    omega
  · rw [List.all_append]
    have e := List.all_eq_true.mp ha
    rw [List.all_eq_true.mpr fun x hx => e x (List.mem_of_mem_take hx), Bool.true_and]
    exact List.all_eq_true.mpr fun x hx => by
      rw [List.eq_of_mem_replicate hx]
      exact hc
theorem LW.one {c : Nat} (hc : lowc c = true) : LW [c] := ⟨by simp, by simp, by simp [hc]⟩
theorem S_inj {a b : List Nat} (h : SX.S a = SX.S b) : a = b := by
  have := congrArg (fun s : Str => s.cps.toList) h
  simpa [SX.S] using this
theorem ins_all_full : ∀ (xs l : List Str), (insAll xs l).length = xs.length + l.length → xs.Nodup ∧ ∀ x ∈ xs, x ∉ l
  | [], _, _ => ⟨List.nodup_nil, fun _ h => nomatch h⟩
  | x :: xs, l, h => by
    unfold insAll at h
    by_cases hx : x ∈ l
    · exfalso
      unfold ins at h
      rw [if_pos hx] at h
      have := insAll_len xs l
      rw [List.length_cons] at h
      omega
    · unfold ins at h
      rw [if_neg hx] at h
      obtain ⟨h1, h2⟩ := ins_all_full xs (x :: l) (by rw [h]; simp only [List.length_cons]; omega)
      refine ⟨List.nodup_cons.mpr ⟨fun z => h2 x z List.mem_cons_self, h1⟩, fun y hy => ?_⟩
      rcases List.mem_cons.mp hy with rfl | hy
      · exact hx
      · exact fun z => h2 y hy (List.mem_cons_of_mem _ z)
theorem nodup_S : ∀ {ws : List (List Nat)}, (ws.map SX.S).Nodup → ws.Nodup
  | [], _ => List.nodup_nil
  | w :: ws, h => by
    rw [List.map_cons, List.nodup_cons] at h
    exact List.nodup_cons.mpr ⟨fun z => h.1 (List.mem_map_of_mem z), nodup_S h.2⟩
/-- the kth letter from a first one, by fives -/
def five (f k : Nat) : Nat := 97 + (f + 5 * k) % 26
theorem five_inj {f i j : Nat} (hi : i < 20) (hj : j < 20) (h : five f i = five f j) : i = j := by
  unfold five at h
  omega
theorem nodup_range_map {α : Type} {f : Nat → α} {m : Nat} (h : ∀ i j, i < m → j < m → f i = f j → i = j) : ((List.range m).map f).Nodup := by
  rw [List.Nodup, List.pairwise_map]
  refine List.Pairwise.imp_of_mem ?_ List.nodup_range
  intro a b ha hb hne e
  exact hne (h a b (List.mem_range.mp ha) (List.mem_range.mp hb) e)
theorem put_inj {a : List Nat} {k c d : Nat} (h : a.take k ++ [c] ++ a.drop k = a.take k ++ [d] ++ a.drop k) : c = d := by
  have h1 := (List.append_cancel_right h)
  have h2 := (List.append_cancel_left h1)
  exact (List.cons.inj h2).1
theorem lc_str {x : Str} {g : TG} {tt : TT} {te : TE} {vs : List Nat} {σ : L2.St} {H1 : Hp} {D : Addr} {Qd : Hp → Prop} (Pv : Nat → Hp → Prop) (h0 : Pv 0 (upd H1 D (.lst [])))
    (hs : ∀ i c H, x.cps[i]? = some c → Pv i H → g (.str ⟨#[c]⟩) (wipe σ vs) H fun σ2 H2 => wipe σ2 vs = wipe σ vs ∧ tt σ2 H2 fun b H3 =>
      if b = true then te σ2 H3 fun y H4 => ∃ acc, H4 D = some (.lst acc) ∧ acc.length < sizeLine ∧ Pv (i + 1) (upd H4 D (.lst (acc ++ [y]))) else Pv (i + 1) H3) (hd : ∀ H, Pv x.cps.size H → Qd H) :
    ∃ W : Nat → Nat → Hp → Prop, (∃ m, W 0 m (upd H1 D (.lst []))) ∧ ∀ i m H, W i m H →
      ((Its x).stop i H ∧ Qd H) ∨ ((Its x).go i H ∧ ∃ Nx : Hp → Prop, (∀ H', Nx H' → ∃ m', m' < m ∧ W (i + 1) m' H') ∧ ∀ y H', (Its x).yld i H y H' → g y (wipe σ vs) H' fun σ2 H2 => wipe σ2 vs = wipe σ vs ∧ tt σ2 H2 fun b H3 =>
        if b = true then te σ2 H3 fun y H4 => ∃ acc, H4 D = some (.lst acc) ∧ acc.length < sizeLine ∧ Nx (upd H4 D (.lst (acc ++ [y]))) else Nx H3) := by
  refine ⟨fun i m H => m = x.cps.size - i ∧ i ≤ x.cps.size ∧ Pv i H, ⟨x.cps.size, by simp, Nat.zero_le _, h0⟩, ?_⟩
  rintro i m H ⟨rfl, hi, p⟩
  by_cases hlt : i < x.cps.size
  · refine .inr ⟨hlt, Pv (i + 1), fun H' p' => ⟨x.cps.size - (i + 1), by omega, rfl, hlt, p'⟩, fun y H' q => ?_⟩
    obtain ⟨e, c, hc, ev⟩ := q
    subst e ev
    exact hs i c _ hc p
  · have e : i = x.cps.size := by omega
    subst e
    exact .inl ⟨Nat.le_refl _, hd H p⟩
/-! ### names with an apostrophe; the law's own test of names -/
theorem last_low {x : List Nat} (h : x.all lowc = true) : x.getLast? ≠ some 39 := fun z => by
  have := List.all_eq_true.mp h 39 (List.mem_of_getLast? z)
  revert this
  decide
theorem cutQ_lw {x : List Nat} (h : LW x) {k : Nat} (hk : k ≤ 1) : cutQ (x ++ List.replicate k 39) = x := by
  unfold cutQ
  match k, hk with
  | 0, _ => rw [List.replicate_zero, List.append_nil, if_neg (last_low h.2.2)]
  | 1, _ => rw [show List.replicate 1 39 = [39] from rfl, List.getLast?_append, List.getLast?_singleton, Option.some_or, if_pos rfl, List.dropLast_concat]
theorem name_lw {x : List Nat} (h : LW x) {k : Nat} (hk : k ≤ 1) : nameB (x ++ List.replicate k 39) = true ∧ (x ++ List.replicate k 39).length ≤ 7 := by
  constructor
  · unfold nameB letB
    rw [cutQ_lw h hk, h.2.2, decide_eq_true h.2.1]
    cases x with
    | nil => exact absurd rfl h.1
    | cons _ _ => rfl
  · rw [List.length_append, List.length_replicate]
    have := h.2.1
    omega
theorem nodup_of_map {α β : Type} (f : α → β) : ∀ {l : List α}, (l.map f).Nodup → l.Nodup
  | [], _ => List.nodup_nil
  | w :: ws, h => by
    rw [List.map_cons, List.nodup_cons] at h
    exact List.nodup_cons.mpr ⟨fun z => h.1 (List.mem_map_of_mem z), nodup_of_map f h.2⟩
theorem sIx_neg1 (n : Nat) (d : Nat) : HT.sIx n d (some (-1)) = n - 1 := by
  unfold HT.sIx
  simp
  omega
theorem cut_but1 (t : List Nat) : L2.cutS (SX.S t) none (some (-1)) = SX.S t.dropLast := by
  unfold L2.cutS
  rw [HT.sIx_none, sIx_neg1, SX.S_len, Nat.sub_zero]
  refine TL.ext_tl ?_
  show (t.drop 0).take (t.length - 1) = t.dropLast
  rw [List.drop_zero, List.dropLast_eq_take]
theorem cut_end1 (t : List Nat) : L2.cutS (SX.S t) (some (-1)) none = SX.S (t.drop (t.length - 1)) := by
  unfold L2.cutS
  rw [HT.sIx_none, sIx_neg1, SX.S_len]
  refine TL.ext_tl ?_
  show (t.drop (t.length - 1)).take (t.length - (t.length - 1)) = t.drop (t.length - 1)
  rw [List.take_of_length_le]
  rw [List.length_drop]
  exact Nat.le_refl _
theorem drop_last (t : List Nat) : (t.drop (t.length - 1) = [39]) ↔ t.getLast? = some 39 := by
  rcases List.eq_nil_or_concat t with rfl | ⟨b, c, rfl⟩
  · simp
  · rw [List.concat_eq_append, List.getLast?_append, List.getLast?_singleton, Option.some_or]
    have e : (b ++ [c]).length - 1 = b.length := by simp
    rw [e, List.drop_left]
    simp
theorem abc_mem (c : Nat) : decide (c ∈ ABC.cps.toList) = lowc c := by
  rw [show ABC.cps.toList = (List.range 26).map (97 + ·) by decide +kernel]
  unfold lowc
  rw [Bool.eq_iff_iff, decide_eq_true_eq, Bool.and_eq_true, decide_eq_true_eq, decide_eq_true_eq, List.mem_map]
  constructor
  · rintro ⟨k, hk, rfl⟩
    have := List.mem_range.mp hk
    omega
  · rintro ⟨h1, h2⟩
    exact ⟨c - 97, List.mem_range.mpr (by omega), by omega⟩
/-! ### lists of texts as data -/
theorem shape_strs : ∀ l : List Str, l.length ≤ 2 → (∀ x ∈ l, PyData.strOk x = true) → SeqAt.shaped (.list (l.map PyData.str)) = true
  | [], _, _ => rfl
  | [x], _, h => by
    show ((PyData.strOk x && true) && true) = true
    rw [h x List.mem_cons_self]
    rfl
  | [x, y], _, h => by
    show ((PyData.strOk x && (PyData.strOk y && true)) && true) = true
    rw [h x List.mem_cons_self, h y (List.mem_cons_of_mem _ List.mem_cons_self)]
    rfl
  | _ :: _ :: _ :: _, h, _ => by simp at h
theorem eqvAll_strs : ∀ l : List Str, PyData.eqvAll (l.map PyData.str) (l.map PyData.str) = true
  | [] => rfl
  | x :: l => by
    show (PyData.eqv (.str x) (.str x) && PyData.eqvAll (l.map PyData.str) (l.map PyData.str)) = true
    rw [eqvAll_strs l, Bool.and_true]
    show (x == x) = true
    exact beq_self_eq_true x
theorem dp_strs {K : PySem.W.Frag} {H : Hp} : ∀ l : List Str, DpAll K H (l.map V.str) (l.map PyData.str)
  | [] => .nil
  | x :: l => .cons (.str x) (dp_strs l)
theorem strOk_name {x : List Nat} (h : nameB x = true) : PyData.strOk (SX.S x) = true := by
  unfold nameB letB at h
  rw [Bool.and_eq_true, Bool.and_eq_true] at h
  have hl := List.all_eq_true.mp h.2.2
  have key : ∀ c ∈ x, c < 0x110000 := fun c hc => by
    by_cases e : c ∈ cutQ x
    · have := hl c e
      unfold lowc at this
      rw [Bool.and_eq_true, decide_eq_true_eq, decide_eq_true_eq] at this
      omega
    · unfold cutQ at e
      split at e
      · rename_i z
        rcases List.eq_nil_or_concat x with rfl | ⟨b, d, rfl⟩
        · cases hc
        · rw [List.concat_eq_append] at *
          rw [List.getLast?_append, List.getLast?_singleton, Option.some_or] at z
          rw [List.dropLast_concat] at e
          rcases List.mem_append.mp hc with k | k
          · exact absurd k e
          · rw [List.mem_singleton.mp k, Option.some.inj z]
            decide
      · exact absurd hc e
  unfold PyData.strOk
  rw [← Array.all_toList, show (SX.S x).cps.toList = x by simp [SX.S]]
  exact List.all_eq_true.mpr fun c hc => decide_eq_true (key c hc)
/-! ### a dict against a copy whose values are the same objects -/
def okV (v : V) : Prop := flatB v = true ∨ ∃ p, v = .ref p
theorem eqAt_sameR {A : Around} {s : Shared} {v : V} {u u' : Value} (r : RelV v u) (r' : RelV v u') (f : okV v) : SeqAt.EqAt A s u u' true := by
  rcases f with f | ⟨p, rfl⟩
  · exact eqAt_same r r' f
  · cases (show u = Value.ref p from r)
    cases (show u' = Value.ref p from r')
    exact SeqAt.EqAt.same _
theorem hits_allR {A : Around} {s : Shared} {kvs : List (Key × V)} {vb : List (Key × Value)} (rb : KV kvs vb) {ks : List (Key × V)} {va : List (Key × Value)} (ra : KV ks va) :
    (∀ p ∈ ks, valV kvs p.1 = some p.2 ∧ okV p.2) → PySem.W.KeqHits A s vb va true := by
  unfold KV at ra
  induction ra with
  | nil => intro _; exact .nil
  | @cons p q ps qs h t ih =>
    intro hp
    obtain ⟨h1, h2⟩ := h
    obtain ⟨e, f⟩ := hp p List.mem_cons_self
    have rr : RelO (some p.2) (valueAt vb p.1) := by rw [← e]; exact rb.val p.1
    obtain ⟨y, hy, ry⟩ := rr.some_of
    obtain ⟨k, v⟩ := q
    have h1' : p.1 = k := h1
    rw [h1'] at hy
    show PySem.W.KeqHits A s vb ((k, v) :: qs) (true && true)
    exact .hit hy (eqAt_sameR h2 ry f) (ih fun p' hm => hp p' (List.mem_cons_of_mem _ hm))
theorem op_ne_dictR {X : Cx} (hu : X.A.units < cLine) : OpR X (compareOp .NotEq) (fun x y H Q => ∃ a b kvs, x = .ref a ∧ y = .ref b ∧ H a = some (.dK kvs) ∧ H b = some (.dK kvs) ∧ (∀ p ∈ kvs, valV kvs p.1 = some p.2 ∧ okV p.2) ∧ Q (.bl false) H) := by
  intro pins s σ H x y v u Q I rx ry h
  obtain ⟨a, b, ks, rfl, rfl, ea, eb, hp, q⟩ := h
  obtain rfl : v = Value.ref a := rx
  obtain rfl : u = Value.ref b := ry
  obtain ⟨_, ya, va, ra, da⟩ := (show ObjOk X.prog X.w H s.heap a (.dK ks) from I.hok a _ ea)
  obtain ⟨_, yb, vb, rb, db⟩ := (show ObjOk X.prog X.w H s.heap b (.dK ks) from I.hok b _ eb)
  have hl : va.length = vb.length := by rw [← ra.length, ← rb.length]
  exact PySem.W.keq_ne (knd := mixKind X.prog X.w) (r := true) ya yb da db hu (fun _ => hits_allR rb ra hp) (fin_bl I q (by simp [hl]))
/-! ### tuple * int, for every number of times -/
theorem tuple_mul_same (l : Addr) (items : Array Value) (n : Nat) (dd : Option Addr) (sl : Array (Option Value)) (x : Int) (u : Tok) (c0 : (decide (x < -(2 ^ 63)) || decide (x ≥ 2 ^ 63)) = false) (c1 : (items.isEmpty || x == 1) = true) :
    Meets (Builtin.«tuple.__mul__» ⟨[.ref l, .int x u], []⟩) (fun _ R s => s.heap.get? l = some { cls := .type "tuple", dict := dd, data := .seq items n, slots := sl } ∧
      R (.ok (.ret (Value.ref l))) s) :=
  .of_wp fun prog w A R s h => by
    obtain ⟨hp, g, d, tk, os⟩ := s
    obtain ⟨hl, h⟩ := h
    have f1 := AutoSeq1.idx_int
    wp_walk using wpAny_loadPart' hl
    repeat (first
      | (refine wpAny_ite_false (decide_eq_false (by rw [c0]; exact Bool.false_ne_true)) ?_; wp_walk using wpAny_loadPart' hl)
      | (refine wpAny_ite_true (decide_eq_true c1) ?_; wp_walk using wpAny_loadPart' hl))
    exact ⟨_, rfl, h⟩
theorem tuple_mul_none (l : Addr) (items : Array Value) (n : Nat) (dd : Option Addr) (sl : Array (Option Value)) (x : Int) (u : Tok) (c0 : (decide (x < -(2 ^ 63)) || decide (x ≥ 2 ^ 63)) = false) (c1 : (items.isEmpty || x == 1) = false) (c2 : (decide (x ≤ 0) || items.isEmpty) = true) :
    Meets (Builtin.«tuple.__mul__» ⟨[.ref l, .int x u], []⟩) (fun _ R s => s.heap.get? l = some { cls := .type "tuple", dict := dd, data := .seq items n, slots := sl } ∧
      R (.ok (.ret (Value.ref s.heap.objs.size))) { s with heap := s.heap.push { cls := Value.type "tuple", data := Data.seq #[] }, toks := s.toks }) :=
  .of_wp fun prog w A R s h => by
    obtain ⟨hp, g, d, tk, os⟩ := s
    obtain ⟨hl, h⟩ := h
    have f1 := AutoSeq1.idx_int
    wp_walk using wpAny_loadPart' hl
    repeat (first
      | (refine wpAny_ite_false (decide_eq_false (by rw [c0]; exact Bool.false_ne_true)) ?_; wp_walk using wpAny_loadPart' hl)
      | (refine wpAny_ite_false (decide_eq_false (by rw [c1]; exact Bool.false_ne_true)) ?_; wp_walk using wpAny_loadPart' hl)
      | (refine wpAny_ite_true (decide_eq_true c2) ?_; wp_walk using wpAny_loadPart' hl))
    exact ⟨_, rfl, h⟩
def rRepA (K : PySem.W.Frag) : R2 := fun x y H Q => ∃ l k xs, x = .ref l ∧ y = .int k ∧ SqT K H l xs ∧ 0 ≤ k ∧ k ≤ 1000 ∧ xs.length ≤ 1000 ∧ (xs = [] ∨ k = 1 → Q (.ref l) H) ∧ ∀ p, H p = none → Q (.ref p) (upd H p (.tup (List.replicate k.toNat xs).flatten))
theorem op_repA {X : Cx} : OpR X (binaryOp .Mult) (rRepA X.K) := by
  intro pins s σ H x y v u Q I rx ry h
  obtain ⟨l, k, xs, rfl, rfl, hT, h0, h1, hz, q1, q⟩ := h
  by_cases big : xs ≠ [] ∧ 2 ≤ k
  · exact op_repT pins s σ H _ _ v u Q I rx ry ⟨l, k, xs, rfl, rfl, hT, big.1, big.2, h1, hz, q⟩
  cases rx
  obtain ⟨t, rfl⟩ := ry
  obtain ⟨its, r, ⟨⟨cls, dd, data, sl⟩, ho, hc, n, hd⟩, hs⟩ := I.tuple hT
  simp only at hc hd
  subst hc hd
  have hle : its.length = xs.length := r.length.symm
  have c0 : (decide (k < -(2 ^ 63)) || decide (k ≥ 2 ^ 63)) = false := by
    rw [decide_eq_false (by omega), decide_eq_false (by omega)] <;> rfl
  have emp : its.toArray.isEmpty = decide (xs = []) := by
    cases xs with
    | nil =>
      have : its = [] := List.eq_nil_of_length_eq_zero hle
      subst this
      rfl
    | cons a b =>
      cases its with
      | nil => simp at hle
      | cons c d => rfl
  by_cases same : xs = [] ∨ k = 1
  · have c1 : (its.toArray.isEmpty || k == 1) = true := by
      rw [emp]
      rcases same with e | e
      · rw [decide_eq_true e]
        rfl
      · rw [e]
        simp
    refine wpAny_binaryOp_repeat_ref (T := "tuple") (U := "int") (by decide) ⟨_, ho, rfl⟩ (fun s' => typeIs_int s' k t) noFill_tuple_mul F.fills_int_mul F.slot_int_rmul repeat_tuple F.slot_int_index.lookup
      (call_meets F.slot_int_rmul (typeIs_int s k t) F.entry_int_rmul (F.args_int_rmul_2 _ _) (int_rmul_tuple k t l its.toArray n dd sl)
        ⟨ho, rfl, ⟨_, ho, rfl⟩, call_meets F.slot_tuple_mul ⟨_, ho, rfl⟩ F.entry_tuple_mul (F.args_tuple_mul_2 _ _) (tuple_mul_same l its.toArray n dd sl k t c0 c1) ⟨ho, ?_⟩⟩)
    exact ⟨.ref l, H, I, rfl, q1 same⟩
  · have ne : xs ≠ [] := fun e => same (.inl e)
    have k0 : k = 0 := by
      have a : ¬ 2 ≤ k := fun z => big ⟨ne, z⟩
      have b : k ≠ 1 := fun z => same (.inr z)
      omega
    have c1 : (its.toArray.isEmpty || k == 1) = false := by
      rw [emp, decide_eq_false ne, k0]
      rfl
    have c2 : (decide (k ≤ 0) || its.toArray.isEmpty) = true := by
      rw [decide_eq_true (by omega)]
      rfl
    refine wpAny_binaryOp_repeat_ref (T := "tuple") (U := "int") (by decide) ⟨_, ho, rfl⟩ (fun s' => typeIs_int s' k t) noFill_tuple_mul F.fills_int_mul F.slot_int_rmul repeat_tuple F.slot_int_index.lookup
      (call_meets F.slot_int_rmul (typeIs_int s k t) F.entry_int_rmul (F.args_int_rmul_2 _ _) (int_rmul_tuple k t l its.toArray n dd sl)
        ⟨ho, rfl, ⟨_, ho, rfl⟩, call_meets F.slot_tuple_mul ⟨_, ho, rfl⟩ F.entry_tuple_mul (F.args_tuple_mul_2 _ _) (tuple_mul_none l its.toArray n dd sl k t c0 c1 c2) ⟨ho, ?_⟩⟩)
    have e : (List.replicate k.toNat xs).flatten = [] := by rw [k0]; rfl
    rw [e] at q
    refine ⟨.ref s.heap.objs.size, _, I.laid (t' := s.toks) (o := .tup []) (fun b ob q => Heap.get?_push_of_some _ q) (Nat.le_refl _) ?_, rfl, q _ (I.hok.fresh (Nat.le_refl _))⟩
    exact ⟨Nat.zero_le _, [], .nil, IsTup.new _ _⟩
theorem op_repAK {X : Cx} {K : PySem.W.Frag} (h : X.K = K) : OpR X (binaryOp .Mult) (rRepA K) := h ▸ op_repA
end EK
namespace T9
open PySem PySem.Spec PyProof.Rows L2 EK
def topS (i : Nat) : Stmt := PySem.Challenge.pw_tiespan_k40_programs_run.main.body.getD i (.Pass ⟨0, 0, 0, 0⟩)
abbrev s_p_shortened : Stmt := topS 8
abbrev s_p_common_divisor : Stmt := topS 9
abbrev s_p_ratio : Stmt := topS 10
abbrev s_p_add : Stmt := topS 11
abbrev s_p_subtract : Stmt := topS 12
abbrev s_p_multiply : Stmt := topS 13
abbrev s_p_is_less : Stmt := topS 14
abbrev s_p_is_kept : Stmt := topS 16
abbrev s_p_form_value : Stmt := topS 18
abbrev s_p_next_choice : Stmt := topS 20
abbrev s_p_share_of : Stmt := topS 21
abbrev s_p_sets_value : Stmt := topS 22
abbrev s_p_runs_statement : Stmt := topS 23
abbrev s_p_runs : Stmt := topS 24
abbrev s_p_run_program : Stmt := topS 25
abbrev s_feed : Stmt := topS 27
abbrev s_draw : Stmt := topS 28
abbrev s_any : Stmt := topS 29
abbrev s_same : Stmt := topS 30
abbrev s_gcd : Stmt := topS 31
abbrev s_low : Stmt := topS 32
abbrev s_plus : Stmt := topS 33
abbrev s_minus : Stmt := topS 34
abbrev s_by : Stmt := topS 35
abbrev s_under : Stmt := topS 36
abbrev s_rate : Stmt := topS 37
abbrev s_words : Stmt := topS 38
abbrev s_total : Stmt := topS 39
abbrev s_keeps : Stmt := topS 40
abbrev s_point : Stmt := topS 41
abbrev s_terms : Stmt := topS 42
abbrev s_brief : Stmt := topS 43
abbrev s_form : Stmt := topS 44
abbrev s_check : Stmt := topS 45
abbrev s_program : Stmt := topS 46
abbrev s_form_value : Stmt := topS 47
abbrev s_walk : Stmt := topS 48
abbrev s_run : Stmt := topS 49
abbrev s_p_law : Stmt := topS 50
theorem sc_p_shortened : FnScope ["one", "other", "shift", "high", "low", "a", "b", "c", "d", "times", "rest", "first", "second"] ["one", "other"] (defScope s_p_shortened) := ⟨rfl, rfl, rfl, by decide +kernel, rfl, by decide +kernel, by decide +kernel⟩
theorem sc_p_common_divisor : FnScope ["one", "other"] ["one", "other"] (defScope s_p_common_divisor) := ⟨rfl, rfl, rfl, by decide +kernel, rfl, by decide +kernel, by decide +kernel⟩
theorem sc_p_ratio : FnScope ["top", "under", "shared"] ["top", "under"] (defScope s_p_ratio) := ⟨rfl, rfl, rfl, by decide +kernel, rfl, by decide +kernel, by decide +kernel⟩
theorem sc_p_add : FnScope ["one", "other"] ["one", "other"] (defScope s_p_add) := ⟨rfl, rfl, rfl, by decide +kernel, rfl, by decide +kernel, by decide +kernel⟩
theorem sc_p_subtract : FnScope ["one", "other"] ["one", "other"] (defScope s_p_subtract) := ⟨rfl, rfl, rfl, by decide +kernel, rfl, by decide +kernel, by decide +kernel⟩
theorem sc_p_multiply : FnScope ["one", "other"] ["one", "other"] (defScope s_p_multiply) := ⟨rfl, rfl, rfl, by decide +kernel, rfl, by decide +kernel, by decide +kernel⟩
theorem sc_p_is_less : FnScope ["one", "other"] ["one", "other"] (defScope s_p_is_less) := ⟨rfl, rfl, rfl, by decide +kernel, rfl, by decide +kernel, by decide +kernel⟩
theorem sc_p_is_kept : FnScope ["tie", "values", "terms", "bound", "total", "name", "rate"] ["tie", "values"] (defScope s_p_is_kept) := ⟨rfl, rfl, rfl, by decide +kernel, rfl, by decide +kernel, by decide +kernel⟩
theorem sc_p_form_value : FnScope ["form", "values", "rate", "name", "number"] ["form", "values"] (defScope s_p_form_value) := ⟨rfl, rfl, rfl, by decide +kernel, rfl, by decide +kernel, by decide +kernel⟩
theorem sc_p_next_choice : FnScope ["choices"] ["choices"] (defScope s_p_next_choice) := ⟨rfl, rfl, rfl, by decide +kernel, rfl, by decide +kernel, by decide +kernel⟩
theorem sc_p_share_of : FnScope ["choice", "top", "under"] ["choice"] (defScope s_p_share_of) := ⟨rfl, rfl, rfl, by decide +kernel, rfl, by decide +kernel, by decide +kernel⟩
theorem sc_p_sets_value : FnScope ["statement", "values", "choices", "low", "top", "share"] ["statement", "values", "choices"] (defScope s_p_sets_value) := ⟨rfl, rfl, rfl, by decide +kernel, rfl, by decide +kernel, by decide +kernel⟩
theorem sc_p_runs_statement : FnScope ["statement", "values", "choices", "word", "chosen", "tie"] ["statement", "values", "choices"] (defScope s_p_runs_statement) := ⟨rfl, rfl, rfl, by decide +kernel, rfl, by decide +kernel, by decide +kernel⟩
theorem sc_p_runs : FnScope ["program", "values", "choices", "statement"] ["program", "values", "choices"] (defScope s_p_runs) := ⟨rfl, rfl, rfl, by decide +kernel, rfl, by decide +kernel, by decide +kernel⟩
theorem sc_p_run_program : FnScope ["program", "values", "choices", "found"] ["program", "values", "choices"] (defScope s_p_run_program) := ⟨rfl, rfl, rfl, by decide +kernel, rfl, by decide +kernel, by decide +kernel⟩
theorem sc_feed : FnScope ["_law_script", "_law_cell", "_law_cells", "_law_mark"] ["_law_script"] (defScope s_feed) := ⟨rfl, rfl, rfl, by decide +kernel, rfl, by decide +kernel, by decide +kernel⟩
theorem sc_draw : FnScope ["_law_feed_here", "_law_many", "_law_cell", "_law_one", "_law_two", "_law_drawn"] ["_law_feed_here", "_law_many"] (defScope s_draw) := ⟨rfl, rfl, rfl, by decide +kernel, rfl, by decide +kernel, by decide +kernel⟩
theorem sc_any : FnScope ["_law_feed_here", "_law_row"] ["_law_feed_here", "_law_row"] (defScope s_any) := ⟨rfl, rfl, rfl, by decide +kernel, rfl, by decide +kernel, by decide +kernel⟩
theorem sc_same : FnScope ["_law_found", "_law_due", "_law_key", "_law_one", "_law_two"] ["_law_found", "_law_due"] (defScope s_same) := ⟨rfl, rfl, rfl, by decide +kernel, rfl, by decide +kernel, by decide +kernel⟩
theorem sc_gcd : FnScope ["_law_one", "_law_two"] ["_law_one", "_law_two"] (defScope s_gcd) := ⟨rfl, rfl, rfl, by decide +kernel, rfl, by decide +kernel, by decide +kernel⟩
theorem sc_low : FnScope ["_law_upper", "_law_lower", "_law_part"] ["_law_upper", "_law_lower"] (defScope s_low) := ⟨rfl, rfl, rfl, by decide +kernel, rfl, by decide +kernel, by decide +kernel⟩
theorem sc_plus : FnScope ["_law_one", "_law_two"] ["_law_one", "_law_two"] (defScope s_plus) := ⟨rfl, rfl, rfl, by decide +kernel, rfl, by decide +kernel, by decide +kernel⟩
theorem sc_minus : FnScope ["_law_one"] ["_law_one"] (defScope s_minus) := ⟨rfl, rfl, rfl, by decide +kernel, rfl, by decide +kernel, by decide +kernel⟩
theorem sc_by : FnScope ["_law_one", "_law_two"] ["_law_one", "_law_two"] (defScope s_by) := ⟨rfl, rfl, rfl, by decide +kernel, rfl, by decide +kernel, by decide +kernel⟩
theorem sc_under : FnScope ["_law_one", "_law_two"] ["_law_one", "_law_two"] (defScope s_under) := ⟨rfl, rfl, rfl, by decide +kernel, rfl, by decide +kernel, by decide +kernel⟩
theorem sc_rate : FnScope ["_law_feed_here"] ["_law_feed_here"] (defScope s_rate) := ⟨rfl, rfl, rfl, by decide +kernel, rfl, by decide +kernel, by decide +kernel⟩
theorem sc_words : FnScope ["_law_feed_here", "_law_many", "_law_letters", "_law_stem", "_law_spot", "_law_first", "_law_way", "_law_found", "_law_k"] ["_law_feed_here", "_law_many"] (defScope s_words) := ⟨rfl, rfl, rfl, by decide +kernel, rfl, by decide +kernel, by decide +kernel⟩
theorem sc_total : FnScope ["_law_terms_here", "_law_values", "_law_found", "_law_name", "_law_rate_here"] ["_law_terms_here", "_law_values"] (defScope s_total) := ⟨rfl, rfl, rfl, by decide +kernel, rfl, by decide +kernel, by decide +kernel⟩
theorem sc_keeps : FnScope ["_law_tie", "_law_values"] ["_law_tie", "_law_values"] (defScope s_keeps) := ⟨rfl, rfl, rfl, by decide +kernel, rfl, by decide +kernel, by decide +kernel⟩
theorem sc_point : FnScope ["_law_feed_here", "_law_words_here", "_law_name"] ["_law_feed_here", "_law_words_here"] (defScope s_point) := ⟨rfl, rfl, rfl, by decide +kernel, rfl, by decide +kernel, by decide +kernel⟩
theorem sc_terms : FnScope ["_law_feed_here", "_law_words_here", "_law_pairs", "_law_one", "_law_chosen", "_law_name"] ["_law_feed_here", "_law_words_here", "_law_pairs"] (defScope s_terms) := ⟨rfl, rfl, rfl, by decide +kernel, rfl, by decide +kernel, by decide +kernel⟩
theorem sc_brief : FnScope ["_law_tie", "_law_whole", "_law_part", "_law_name", "_law_rate_here", "_law_scale"] ["_law_tie"] (defScope s_brief) := ⟨rfl, rfl, rfl, by decide +kernel, rfl, by decide +kernel, by decide +kernel⟩
theorem sc_form : FnScope ["_law_feed_here", "_law_words_here", "_law_rate_here", "_law_number"] ["_law_feed_here", "_law_words_here"] (defScope s_form) := ⟨rfl, rfl, rfl, by decide +kernel, rfl, by decide +kernel, by decide +kernel⟩
theorem sc_check : FnScope ["_law_feed_here", "_law_words_here", "_law_tie", "_law_back", "_law_name", "_law_rate_here"] ["_law_feed_here", "_law_words_here"] (defScope s_check) := ⟨rfl, rfl, rfl, by decide +kernel, rfl, by decide +kernel, by decide +kernel⟩
theorem sc_program : FnScope ["_law_feed_here", "_law_words_here", "_law_depth", "_law_many", "_law_found", "_law_k", "_law_way", "_law_low_here", "_law_high"] ["_law_feed_here", "_law_words_here", "_law_depth", "_law_many"] (defScope s_program) := ⟨rfl, rfl, rfl, by decide +kernel, rfl, by decide +kernel, by decide +kernel⟩
theorem sc_form_value : FnScope ["_law_form_here", "_law_values", "_law_rate_here", "_law_name", "_law_number"] ["_law_form_here", "_law_values"] (defScope s_form_value) := ⟨rfl, rfl, rfl, by decide +kernel, rfl, by decide +kernel, by decide +kernel⟩
theorem sc_walk : FnScope ["_law_program_here", "_law_values", "_law_left", "_law_here", "_law_row", "_law_low_here", "_law_high", "_law_size", "_law_share", "_law_pick", "_law_turn", "_law_tie"] ["_law_program_here", "_law_values", "_law_left"] (defScope s_walk) := ⟨rfl, rfl, rfl, by decide +kernel, rfl, by decide +kernel, by decide +kernel⟩
theorem sc_run : FnScope ["_law_program_here", "_law_values", "_law_choices"] ["_law_program_here", "_law_values", "_law_choices"] (defScope s_run) := ⟨rfl, rfl, rfl, by decide +kernel, rfl, by decide +kernel, by decide +kernel⟩
theorem sc_p_law : FnScope ["_law_script", "_law_feed_here", "_law_turn", "_law_words_here", "_law_program_here", "_law_values", "_law_picks", "_law_kept", "_law_a", "_law_b", "_law_c", "_law_d", "_law_e", "_law_f", "_law_told", "_law_due", "_law_some", "_law_found", "_law_k", "_law_many"] ["_law_script"] (defScope s_p_law) := ⟨rfl, rfl, rfl, by decide +kernel, rfl, by decide +kernel, by decide +kernel⟩
structure Txt (K : PySem.W.Frag) (mg : Str → Option Value) (fa : Nat → Addr) (fd : Nat → FuncData) : Prop where
  F_p_shortened : Fun K "shortened" "shortened" s_p_shortened (fa 8) (fd 8)
  g_p_shortened : mg "shortened" = some (.ref (fa 8))
  b_p_shortened : Binds K (fd 8) ["one", "other"] []
  F_p_common_divisor : Fun K "common_divisor" "common_divisor" s_p_common_divisor (fa 9) (fd 9)
  g_p_common_divisor : mg "common_divisor" = some (.ref (fa 9))
  b_p_common_divisor : Binds K (fd 9) ["one", "other"] []
  F_p_ratio : FunD K "ratio" "ratio" (defArgs s_p_ratio) (defBody s_p_ratio) (defScope s_p_ratio) [V.int 1] [] (fa 10) (fd 10)
  g_p_ratio : mg "ratio" = some (.ref (fa 10))
  b_p_ratio : Binds K (fd 10) ["top", "under"] []
  d_p_ratio : ∃ ds, Vals [V.int 1] ds ∧ Binds K (fd 10) ["top", "under"] ds
  F_p_add : Fun K "add" "add" s_p_add (fa 11) (fd 11)
  g_p_add : mg "add" = some (.ref (fa 11))
  b_p_add : Binds K (fd 11) ["one", "other"] []
  F_p_subtract : Fun K "subtract" "subtract" s_p_subtract (fa 12) (fd 12)
  g_p_subtract : mg "subtract" = some (.ref (fa 12))
  b_p_subtract : Binds K (fd 12) ["one", "other"] []
  F_p_multiply : Fun K "multiply" "multiply" s_p_multiply (fa 13) (fd 13)
  g_p_multiply : mg "multiply" = some (.ref (fa 13))
  b_p_multiply : Binds K (fd 13) ["one", "other"] []
  F_p_is_less : Fun K "is_less" "is_less" s_p_is_less (fa 14) (fd 14)
  g_p_is_less : mg "is_less" = some (.ref (fa 14))
  b_p_is_less : Binds K (fd 14) ["one", "other"] []
  F_p_is_kept : Fun K "is_kept" "is_kept" s_p_is_kept (fa 16) (fd 16)
  g_p_is_kept : mg "is_kept" = some (.ref (fa 16))
  b_p_is_kept : Binds K (fd 16) ["tie", "values"] []
  F_p_form_value : Fun K "form_value" "form_value" s_p_form_value (fa 18) (fd 18)
  g_p_form_value : mg "form_value" = some (.ref (fa 18))
  b_p_form_value : Binds K (fd 18) ["form", "values"] []
  F_p_next_choice : Fun K "next_choice" "next_choice" s_p_next_choice (fa 20) (fd 20)
  g_p_next_choice : mg "next_choice" = some (.ref (fa 20))
  b_p_next_choice : Binds K (fd 20) ["choices"] []
  F_p_share_of : Fun K "share_of" "share_of" s_p_share_of (fa 21) (fd 21)
  g_p_share_of : mg "share_of" = some (.ref (fa 21))
  b_p_share_of : Binds K (fd 21) ["choice"] []
  F_p_sets_value : Fun K "sets_value" "sets_value" s_p_sets_value (fa 22) (fd 22)
  g_p_sets_value : mg "sets_value" = some (.ref (fa 22))
  b_p_sets_value : Binds K (fd 22) ["statement", "values", "choices"] []
  F_p_runs_statement : Fun K "runs_statement" "runs_statement" s_p_runs_statement (fa 23) (fd 23)
  g_p_runs_statement : mg "runs_statement" = some (.ref (fa 23))
  b_p_runs_statement : Binds K (fd 23) ["statement", "values", "choices"] []
  F_p_runs : Fun K "runs" "runs" s_p_runs (fa 24) (fd 24)
  g_p_runs : mg "runs" = some (.ref (fa 24))
  b_p_runs : Binds K (fd 24) ["program", "values", "choices"] []
  F_p_run_program : Fun K "run_program" "run_program" s_p_run_program (fa 25) (fd 25)
  g_p_run_program : mg "run_program" = some (.ref (fa 25))
  F_feed : Fun K "_law_feed" "_law_feed" s_feed (fa 27) (fd 27)
  g_feed : mg "_law_feed" = some (.ref (fa 27))
  b_feed : Binds K (fd 27) ["_law_script"] []
  F_draw : Fun K "_law_draw" "_law_draw" s_draw (fa 28) (fd 28)
  g_draw : mg "_law_draw" = some (.ref (fa 28))
  b_draw : Binds K (fd 28) ["_law_feed_here", "_law_many"] []
  F_any : Fun K "_law_any" "_law_any" s_any (fa 29) (fd 29)
  g_any : mg "_law_any" = some (.ref (fa 29))
  b_any : Binds K (fd 29) ["_law_feed_here", "_law_row"] []
  F_same : Fun K "_law_same" "_law_same" s_same (fa 30) (fd 30)
  g_same : mg "_law_same" = some (.ref (fa 30))
  b_same : Binds K (fd 30) ["_law_found", "_law_due"] []
  F_gcd : Fun K "_law_gcd" "_law_gcd" s_gcd (fa 31) (fd 31)
  g_gcd : mg "_law_gcd" = some (.ref (fa 31))
  b_gcd : Binds K (fd 31) ["_law_one", "_law_two"] []
  F_low : Fun K "_law_low" "_law_low" s_low (fa 32) (fd 32)
  g_low : mg "_law_low" = some (.ref (fa 32))
  b_low : Binds K (fd 32) ["_law_upper", "_law_lower"] []
  F_plus : Fun K "_law_plus" "_law_plus" s_plus (fa 33) (fd 33)
  g_plus : mg "_law_plus" = some (.ref (fa 33))
  b_plus : Binds K (fd 33) ["_law_one", "_law_two"] []
  F_minus : Fun K "_law_minus" "_law_minus" s_minus (fa 34) (fd 34)
  g_minus : mg "_law_minus" = some (.ref (fa 34))
  b_minus : Binds K (fd 34) ["_law_one"] []
  F_by : Fun K "_law_by" "_law_by" s_by (fa 35) (fd 35)
  g_by : mg "_law_by" = some (.ref (fa 35))
  b_by : Binds K (fd 35) ["_law_one", "_law_two"] []
  F_under : Fun K "_law_under" "_law_under" s_under (fa 36) (fd 36)
  g_under : mg "_law_under" = some (.ref (fa 36))
  b_under : Binds K (fd 36) ["_law_one", "_law_two"] []
  F_rate : Fun K "_law_rate" "_law_rate" s_rate (fa 37) (fd 37)
  g_rate : mg "_law_rate" = some (.ref (fa 37))
  b_rate : Binds K (fd 37) ["_law_feed_here"] []
  F_words : Fun K "_law_words" "_law_words" s_words (fa 38) (fd 38)
  g_words : mg "_law_words" = some (.ref (fa 38))
  b_words : Binds K (fd 38) ["_law_feed_here", "_law_many"] []
  F_total : Fun K "_law_total" "_law_total" s_total (fa 39) (fd 39)
  g_total : mg "_law_total" = some (.ref (fa 39))
  b_total : Binds K (fd 39) ["_law_terms_here", "_law_values"] []
  F_keeps : Fun K "_law_keeps" "_law_keeps" s_keeps (fa 40) (fd 40)
  g_keeps : mg "_law_keeps" = some (.ref (fa 40))
  b_keeps : Binds K (fd 40) ["_law_tie", "_law_values"] []
  F_point : Fun K "_law_point" "_law_point" s_point (fa 41) (fd 41)
  g_point : mg "_law_point" = some (.ref (fa 41))
  b_point : Binds K (fd 41) ["_law_feed_here", "_law_words_here"] []
  F_terms : Fun K "_law_terms" "_law_terms" s_terms (fa 42) (fd 42)
  g_terms : mg "_law_terms" = some (.ref (fa 42))
  b_terms : Binds K (fd 42) ["_law_feed_here", "_law_words_here", "_law_pairs"] []
  F_brief : Fun K "_law_brief" "_law_brief" s_brief (fa 43) (fd 43)
  g_brief : mg "_law_brief" = some (.ref (fa 43))
  b_brief : Binds K (fd 43) ["_law_tie"] []
  F_form : Fun K "_law_form" "_law_form" s_form (fa 44) (fd 44)
  g_form : mg "_law_form" = some (.ref (fa 44))
  b_form : Binds K (fd 44) ["_law_feed_here", "_law_words_here"] []
  F_check : Fun K "_law_check" "_law_check" s_check (fa 45) (fd 45)
  g_check : mg "_law_check" = some (.ref (fa 45))
  b_check : Binds K (fd 45) ["_law_feed_here", "_law_words_here"] []
  F_program : Fun K "_law_program" "_law_program" s_program (fa 46) (fd 46)
  g_program : mg "_law_program" = some (.ref (fa 46))
  b_program : Binds K (fd 46) ["_law_feed_here", "_law_words_here", "_law_depth", "_law_many"] []
  F_form_value : Fun K "_law_form_value" "_law_form_value" s_form_value (fa 47) (fd 47)
  g_form_value : mg "_law_form_value" = some (.ref (fa 47))
  b_form_value : Binds K (fd 47) ["_law_form_here", "_law_values"] []
  F_walk : Fun K "_law_walk" "_law_walk" s_walk (fa 48) (fd 48)
  g_walk : mg "_law_walk" = some (.ref (fa 48))
  b_walk : Binds K (fd 48) ["_law_program_here", "_law_values", "_law_left"] []
  F_run : Fun K "_law_run" "_law_run" s_run (fa 49) (fd 49)
  g_run : mg "_law_run" = some (.ref (fa 49))
  b_run : Binds K (fd 49) ["_law_program_here", "_law_values", "_law_choices"] []
  F_p_law : Fun K "law" "law" s_p_law (fa 50) (fd 50)
  g_p_law : mg "law" = some (.ref (fa 50))
  b_p_law : Binds K (fd 50) ["_law_script"] []
  c_LONG : ∃ u, mg "LONG" = some u ∧ RelV (.int 4096) u
  c_ZERO : ∃ u, mg "ZERO" = some u ∧ RelV (.ref (fa 2000)) u
  z_ZERO : ∀ H : Hp, SqT K H ((fa 2000)) [V.int 0, V.int 1]
  m_int : mg "int" = none
  m_len : mg "len" = none
  m_abs : mg "abs" = none
  m_range : mg "range" = none
  m_zip : mg "zip" = none
  m_all : mg "all" = none
  m_isinstance : mg "isinstance" = none
  m_bool : mg "bool" = none
  m_str : mg "str" = none
  m_tuple : mg "tuple" = none
  m_list : mg "list" = none
  m_dict : mg "dict" = none
  m_sorted : mg "sorted" = none
  m_set : mg "set" = none
/-! ### the law's own words: drawing -/
def FeedOk (H : Hp) (a c : Addr) : Prop := ∃ (ns : List Int) (k big mark : Int), H a = some (.lst [.ref c, .int k, .int big, .int mark]) ∧ H c = some (.lst (ns.map V.int)) ∧ c ≠ a ∧ ns.length ≤ 63 ∧ 0 ≤ k
def But (a : Addr) (H H' : Hp) : Prop := ∀ b o, b ≠ a → H b = some o → H' b = some o
theorem But.refl (a : Addr) (H : Hp) : But a H H := fun _ _ _ h => h
theorem But.trans {a : Addr} {H H1 H2 : Hp} (p : But a H H1) (q : But a H1 H2) : But a H H2 := fun b o n h => q b o n (p b o n h)
theorem But.upd {a : Addr} {H : Hp} {o : HO} : But a H (upd H a o) := fun b _ n h => by rw [upd_ne n]; exact h
theorem But.of {a : Addr} {H H' : Hp} (s : Same H H') : But a H H' := fun b o _ h => s b o h
theorem same_upd {H : Hp} {p : Addr} {o : HO} (h : H p = none) : Same H (upd H p o) := fun b x e => by
  rw [upd_ne (ne_of_none e h)]
  exact e
theorem FeedOk.new {H : Hp} {a c p : Addr} {o : HO} (h : FeedOk H a c) (n : H p = none) : FeedOk (upd H p o) a c := by
  obtain ⟨ns, k, big, mark, h1, h2, h3⟩ := h
  exact ⟨ns, k, big, mark, same_upd n _ _ h1, same_upd n _ _ h2, h3⟩
theorem FeedOk.same {H H' : Hp} {a c : Addr} (h : FeedOk H a c) (s : Same H H') : FeedOk H' a c := by
  obtain ⟨ns, k, big, mark, h1, h2, h3⟩ := h
  exact ⟨ns, k, big, mark, s _ _ h1, s _ _ h2, h3⟩
def Mid (m : Int) : Prop := 0 < m ∧ m.natAbs.log2 < 9000
def spDraw : Sp := fun vs H Q _ => ∃ (a c : Addr) (m : Int), vs = [.ref a, .int m] ∧ FeedOk H a c ∧ Mid m ∧ ∀ r H', 0 ≤ r → r < m → FeedOk H' a c → But a H H' → Q (.int r) H'
section
variable {P : Program} {w : World} {K : PySem.W.Frag} {mg : Str → Option Value} {base : Heap} {fa : Nat → Addr} {fd : Nat → FuncData}
theorem ok_draw (T : Txt K mg fa fd) : FnOk P w K mg base CX0 1 (fa 28) (fd 28) ["_law_feed_here", "_law_many"] spDraw := by
  refine T.F_draw.ok sc_draw (fun vs H Q E h => ?_) (fun cdv A outer s H vs Q E hr h => ?_)
  · obtain ⟨a, c, m, rfl, _⟩ := h
    rfl
  · obtain ⟨a, c, m, rfl, ⟨ns, k, big, mark, ha, hc, nca, hlen, hk⟩, ⟨hm, hm9⟩, q⟩ := h
    refine ⟨_, (C8.pss_cut (ps_if (pt_cmpR op_lt (pe_ix ix_list (pv 0) pe_int (fun _ _ => rfl)) pe_int (nomark _)) (C8.pss_cut (ps_asg (pe_op op_add (pe_ix ix_list (pv 0) pe_int (fun _ _ => rfl)) pe_int) (pg_sub (pv 0) pe_int set_list))
      (pss_cons (ps_set (i := 2) sc_draw.nd rfl (.inl rfl) (pe_op op_add (pe_ix ix_list (pv 0) pe_int (fun _ _ => rfl)) (pe_op op_mul (pe_ix ix_list (pv 0) pe_int (fun _ _ => rfl)) pe_int)))
      (C8.pss_cut (ps_if (pt_cmpR op_le (pe_ix ix_list (pv 0) pe_int (fun _ _ => rfl)) (pe_callB call_len_seq (by rfl) T.m_len PySem.boot_len (pa_cons (pe_ix ix_list (pv 0) pe_int (fun _ _ => rfl)) pa_nil)) (nomark _)) (pss_one (ps_set (i := 2) sc_draw.nd rfl (.inl rfl) (pe_ix ix_list (pe_ix ix_list (pv 0) pe_int (fun _ _ => rfl)) (pe_op op_sub (pe_ix ix_list (pv 0) pe_int (fun _ _ => rfl)) pe_int) (fun _ _ => rfl)))) pss_nil)
      (pss_cons (ps_if (PW.pt (pw_or (pt_cmpR op_gt (pe_ix ix_list (pv 0) pe_int (fun _ _ => rfl)) (pe_callB call_len_seq (by rfl) T.m_len PySem.boot_len (pa_cons (pe_ix ix_list (pv 0) pe_int (fun _ _ => rfl)) pa_nil)) (nomark _)) (pw_or1 (pt_cmpR op_lt (pv 2) (pe_op op_pow pe_int pe_int) (nomark _))))) (pss_cons (ps_set (i := 3) sc_draw.nd rfl (.inl rfl) (pe_op op_mod (pe_callTy call_int1 (by rfl) T.m_int PySem.Pv.boot_int (pa_cons (pe_op op_add (pe_op op_add (pe_op op_mul (pv 2) pe_int) (pe_op op_mul (pe_ix ix_list (pv 0) pe_int (fun _ _ => rfl)) pe_int)) (pe_ix ix_list (pv 0) pe_int (fun _ _ => rfl))) pa_nil)) pe_int))
      (pss_cons (ps_set (i := 4) sc_draw.nd rfl (.inl rfl) (pe_op op_mod (pe_callTy call_int1 (by rfl) T.m_int PySem.Pv.boot_int (pa_cons (pe_op op_add (pe_op op_mul (pv 3) (pv 3)) (pe_op op_mul (pe_ix ix_list (pv 0) pe_int (fun _ _ => rfl)) pe_int)) pa_nil)) pe_int))
      (pss_one (ps_ret (pe_op op_mod (pe_op op_fdiv (pe_op op_mod (pe_callTy call_int1 (by rfl) T.m_int PySem.Pv.boot_int (pa_cons (pe_op op_add (pe_op op_mul (pv 4) pe_int) (pv 3)) pa_nil)) pe_int) pe_int) (pv 1)))))) pss_nil)
      (pss_one (ps_asg (pv 2) (pg_sub (pv 0) pe_int set_list))))))) pss_nil)
      (pss_cons (ps_set (i := 5) sc_draw.nd rfl (.inl rfl) (pe_op op_mod (pe_callTy call_int1 (by rfl) T.m_int PySem.Pv.boot_int (pa_cons (pe_ix ix_list (pv 0) pe_int (fun _ _ => rfl)) pa_nil)) (pv 1)))
      (pss_cons (ps_asg (pe_op op_fdivW (pe_callTy call_int1 (by rfl) T.m_int PySem.Pv.boot_int (pa_cons (pe_ix ix_list (pv 0) pe_int (fun _ _ => rfl)) pa_nil)) (pv 1)) (pg_sub (pv 0) pe_int set_list))
      (pss_one (ps_ret (pv 5)))))), ?_⟩
    have i0 : ∀ (x y z u : V), atI [x, y, z, u] 0 = some x := fun _ _ _ _ => rfl
    have i1 : ∀ (x y z u : V), atI [x, y, z, u] 1 = some y := fun _ _ _ _ => rfl
    have i2 : ∀ (x y z u : V), atI [x, y, z, u] 2 = some z := fun _ _ _ _ => rfl
    have i3 : ∀ (x y z u : V), atI [x, y, z, u] 3 = some u := fun _ _ _ _ => rfl
    refine ⟨fun σ H1 => FeedOk H1 a c ∧ But a H H1 ∧ ∃ y2 y3 y4 y5, σ = [some (.ref a), some (.int m), y2, y3, y4, y5], ?_, fun σ H1 hM => ?_⟩
    · refine ⟨.ref a, rfl, a, _, _, _, rfl, rfl, SqL.of ha, i2 _ _ _ _, _, _, rfl, rfl, _, rfl, ite2 (fun e => ?_) (fun e => ?_)⟩
      · -- feed[1] = feed[1] + 1
        refine ⟨fun σ H1 => σ = [some (.ref a), some (.int m), none, none, none, none] ∧ H1 a = some (.lst [.ref c, .int (k + 1), .int big, .int mark]) ∧ H1 c = some (.lst (ns.map V.int)) ∧ But a H H1,
          ⟨.ref a, rfl, a, _, _, _, rfl, rfl, SqL.of ha, i1 _ _ _ _, _, _, rfl, rfl, .ref a, rfl, a, _, _, 1, rfl, rfl, ha, rfl, rfl, upd_same, by rw [upd_ne nca]; exact hc, But.upd⟩, fun σ H1 hM => ?_⟩
        obtain ⟨rfl, ha1, hc1, b1⟩ := hM
        refine ⟨.ref a, rfl, a, _, _, _, rfl, rfl, SqL.of ha1, i3 _ _ _ _, .ref a, rfl, a, _, _, _, rfl, rfl, SqL.of ha1, i1 _ _ _ _, _, _, rfl, rfl, .inr (by decide), _, _, rfl, rfl, ?_⟩
        refine ⟨fun σ H2 => H2 = H1 ∧ ∃ z : Int, σ = [some (.ref a), some (.int m), some (.int z), none, none, none], ?_, fun σ H2 hM => ?_⟩
        · refine ⟨.ref a, rfl, a, _, _, _, rfl, rfl, SqL.of ha1, i1 _ _ _ _, .ref a, rfl, a, _, _, _, rfl, rfl, SqL.of ha1, i0 _ _ _ _, c, _, rfl, .inl (SqL.of hc1), _, _, rfl, rfl, _, rfl, ite2 (fun e1 => ?_) (fun e1 => ?_)⟩
          · have h1 : k + 1 ≤ ((ns.map V.int).length : Int) := of_decide_eq_true e1
            rw [List.length_map] at h1
            have h2 : k.toNat < ns.length := by omega
            have g : (ns.map V.int)[k.toNat]? = some (.int ns[k.toNat]) := by rw [List.getElem?_map, List.getElem?_eq_getElem h2]; rfl
            exact ⟨.ref a, rfl, a, _, _, _, rfl, rfl, SqL.of ha1, i0 _ _ _ _, .ref a, rfl, a, _, _, _, rfl, rfl, SqL.of ha1, i1 _ _ _ _, _, _, rfl, rfl, c, _, _, _, rfl, rfl, SqL.of hc1, at_of (j := k.toNat) (by omega) g, rfl, _, rfl⟩
          · exact ⟨rfl, _, rfl⟩
        · obtain ⟨rfl, z, rfl⟩ := hM
          have tail : FeedOk (upd H2 a (.lst ([V.ref c, .int (k + 1), .int big, .int mark].set 2 (.int z)))) a c ∧ But a H (upd H2 a (.lst ([V.ref c, .int (k + 1), .int big, .int mark].set 2 (.int z)))) ∧ ∃ y2 y3 y4 y5, [some (V.ref a), some (.int m), some (.int z), none, none, none] = [some (V.ref a), some (.int m), y2, y3, y4, y5] :=
            ⟨⟨ns, k + 1, z, mark, upd_same, by rw [upd_ne nca]; exact hc1, nca, hlen, by omega⟩, b1.trans But.upd, _, _, _, _, rfl⟩
          have pos : ∀ x y : Int, 0 ≤ x % 2147483647 ∧ x % 2147483647 < 2147483647 := fun x _ => ⟨Int.emod_nonneg _ (by decide), Int.emod_lt_of_pos _ (by decide)⟩
          have done : ∀ x : Int, Q (.int (x % m)) H2 := fun x => q _ _ (Int.emod_nonneg _ (by omega)) (Int.emod_lt_of_pos _ hm) ⟨ns, k + 1, big, mark, ha1, hc1, nca, hlen, by omega⟩ b1
          refine ⟨.ref a, rfl, a, _, _, _, rfl, rfl, SqL.of ha1, i1 _ _ _ _, .ref a, rfl, a, _, _, _, rfl, rfl, SqL.of ha1, i0 _ _ _ _, c, _, rfl, .inl (SqL.of hc1), _, _, rfl, rfl, _, rfl, ite2 (fun e1 => ?_) (fun e1 => ?_)⟩
          · exact ⟨_, rfl, _, _, rfl, rfl, .inr (by decide), _, rfl, a, _, _, _, rfl, rfl, SqL.of ha1, i1 _ _ _ _, _, _, rfl, rfl, .inr (by decide), _, _, rfl, rfl, _, rfl, a, _, _, _, rfl, rfl, SqL.of ha1, i3 _ _ _ _, _, _, rfl, rfl, .inl ⟨_, rfl, _, _, rfl, rfl, (by show (0 : Int) < _; decide), _, rfl, _, rfl, _, _, rfl, rfl, .inl (by have p := pos (z * 48271 + (k + 1) * 69621 + mark) 0; exact ⟨by omega, by omega⟩), _, rfl, a, _, _, _, rfl, rfl, SqL.of ha1, i1 _ _ _ _, _, _, rfl, rfl, .inr (by decide), _, _, rfl, rfl, .inl ⟨_, rfl, _, _, rfl, rfl, (by show (0 : Int) < _; decide), _, rfl, _, _, rfl, rfl, .inr (by decide), _, rfl, _, _, rfl, rfl, .inl ⟨_, rfl, _, _, rfl, rfl, (by show (0 : Int) < _; decide), _, _, rfl, rfl, ⟨by decide, by decide⟩, _, rfl, _, _, rfl, rfl, hm, done _⟩⟩⟩⟩
          · refine ⟨_, rfl, _, _, rfl, rfl, ⟨by decide, by decide, by decide⟩, _, _, rfl, rfl, _, rfl, ite2 (fun e2 => ?_) (fun e2 => ?_)⟩
            · exact ⟨_, rfl, _, _, rfl, rfl, .inr (by decide), _, rfl, a, _, _, _, rfl, rfl, SqL.of ha1, i1 _ _ _ _, _, _, rfl, rfl, .inr (by decide), _, _, rfl, rfl, _, rfl, a, _, _, _, rfl, rfl, SqL.of ha1, i3 _ _ _ _, _, _, rfl, rfl, .inl ⟨_, rfl, _, _, rfl, rfl, (by show (0 : Int) < _; decide), _, rfl, _, rfl, _, _, rfl, rfl, .inl (by have p := pos (z * 48271 + (k + 1) * 69621 + mark) 0; exact ⟨by omega, by omega⟩), _, rfl, a, _, _, _, rfl, rfl, SqL.of ha1, i1 _ _ _ _, _, _, rfl, rfl, .inr (by decide), _, _, rfl, rfl, .inl ⟨_, rfl, _, _, rfl, rfl, (by show (0 : Int) < _; decide), _, rfl, _, _, rfl, rfl, .inr (by decide), _, rfl, _, _, rfl, rfl, .inl ⟨_, rfl, _, _, rfl, rfl, (by show (0 : Int) < _; decide), _, _, rfl, rfl, ⟨by decide, by decide⟩, _, rfl, _, _, rfl, rfl, hm, done _⟩⟩⟩⟩
            · exact ⟨_, rfl, .ref a, rfl, a, _, _, 2, rfl, rfl, ha1, rfl, tail⟩
      · exact ⟨⟨ns, k, big, mark, ha, hc, nca, hlen, hk⟩, But.refl _ _, none, none, none, none, rfl⟩
    · obtain ⟨⟨ns1, k1, big1, mark1, ha1, hc1, nca1, hlen1, hk1⟩, b1, y2, y3, y4, y5, rfl⟩ := hM
      refine ⟨.ref a, rfl, a, _, _, _, rfl, rfl, SqL.of ha1, i2 _ _ _ _, .inl ⟨_, rfl, _, rfl, _, _, rfl, rfl, hm, ?_⟩⟩
      refine ⟨.ref a, rfl, a, _, _, _, rfl, rfl, SqL.of ha1, i2 _ _ _ _, .inl ⟨_, rfl, _, rfl, _, _, rfl, rfl, ⟨hm, hm9⟩, ?_⟩⟩
      refine ⟨.ref a, rfl, a, _, _, 2, rfl, rfl, ha1, rfl, ?_⟩
      refine ⟨_, rfl, q _ _ (Int.emod_nonneg _ (by omega)) (Int.emod_lt_of_pos _ hm) ⟨ns1, k1, big1 / m, mark1, upd_same, ?_, nca1, hlen1, hk1⟩ (b1.trans But.upd)⟩
      rw [upd_ne nca1]
      exact hc1
theorem cut63 (xs : List V) (h : xs.length ≤ 63) : cutV xs none (some 63) = xs := by
  unfold cutV
  rw [show HT.sIx xs.length xs.length (some 63) = min 63 xs.length from HT.sIx_nat xs.length xs.length 63, HT.sIx_none]
  rw [Nat.min_eq_right h]
  exact List.take_length
def spFeed (K : PySem.W.Frag) : Sp := fun vs H Q _ => ∃ (a : Addr) (ns : List Int), vs = [.ref a] ∧ SqL K H a (ns.map V.int) ∧ ns.length ≤ 63 ∧ ∀ p c H', H p = none → H c = none → Same H H' → FeedOk H' p c → Q (.ref p) H'
theorem ok_feed (T : Txt K mg fa fd) : FnOk P w K mg base CX0 1 (fa 27) (fd 27) ["_law_script"] (spFeed K) := by
  refine T.F_feed.ok sc_feed (fun vs H Q E h => ?_) (fun cdv A outer s H vs Q E hr h => ?_)
  · obtain ⟨a, ns, rfl, _⟩ := h
    rfl
  · obtain ⟨a, ns, rfl, hS, hlen, q⟩ := h
    refine ⟨_, (C8.pss_cut (ps_setLc (i := 2) (own := [("_law_cell", 1)]) (g := gName 1) (tt := tYes) rfl sc_feed.nd rfl rfl (sw_true rfl rfl rfl (by decide +kernel)) (pi_list (pe_slice sl_list (pv 0) po_none (po_some pe_int))) (blkOk_by (own := [("_law_cell", 1)]) (N := ["_law_script", "_law_cell", "_law_cells", "_law_mark"]) (sc := defScope s_feed) (by decide +kernel)) (fun _ _ _ _ _ => pg_name (i := 1) sc_feed.nd rfl (Or.inl rfl)) (fun _ _ _ _ _ => pts_nil) (fun _ _ _ _ _ => (pe_callTy call_int1 (by rfl) T.m_int PySem.Pv.boot_int (pa_cons (pv 1) pa_nil))))
      (pss_cons (ps_set (i := 3) sc_feed.nd rfl (.inl rfl) (pe_op op_add pe_int (pe_op op_mul pe_int (pe_callB call_len_seq (by rfl) T.m_len PySem.boot_len (pa_cons (pv 2) pa_nil)))))
      (pss_cons (ps_for PassesOwn.never rfl (pi_list (pv 2)) (pg_name (i := 1) sc_feed.nd rfl (.inl rfl)) (pss_one (ps_set (i := 3) sc_feed.nd rfl (.inl rfl) (pe_op op_mod (pe_callTy call_int1 (by rfl) T.m_int PySem.Pv.boot_int (pa_cons (pe_op op_add (pe_op op_mul (pv 3) pe_int) (pv 1)) pa_nil)) pe_int))))
      (pss_one (ps_ret (pe_lst (pa_cons (pv 2) (pa_cons pe_int (pa_cons pe_int (pa_cons (pv 3) pa_nil)))))))))), ?_⟩
    refine ⟨fun σ H1 => ∃ c, σ = [some (.ref a), none, some (.ref c), none] ∧ H c = none ∧ Same H H1 ∧ H1 c = some (.lst (ns.map V.int)), ?_, fun σ H1 hM => ?_⟩
    · refine ⟨.ref a, rfl, 63, rfl, a, _, rfl, hS, fun p np => ?_⟩
      rw [cut63 _ (by rw [List.length_map]; exact hlen)]
      have s1 : Same H (upd H p (.lst (ns.map V.int))) := same_upd np
      refine ⟨p, rfl, ⟨_, SqL.of upd_same⟩, fun D nD => ?_⟩
      have nD0 : H D = none := s1.free nD
      have npD : p ≠ D := ne_of_none upd_same nD
      refine lc_list (K := K) (a := p) (xs := ns.map V.int) (fun i H2 => Same (upd H p (.lst (ns.map V.int))) H2 ∧ H2 D = some (.lst ((ns.take i).map V.int))) ⟨same_upd nD, upd_same⟩ (fun i H2 _ hp => SqL.of (hp.1 _ _ upd_same)) (fun i x H2 hx hp => ?_) (fun H2 hp => ?_)
      · rw [List.getElem?_map] at hx
        obtain ⟨z, hz, rfl⟩ := Option.map_eq_some_iff.mp hx
        refine ⟨rfl, _, rfl, .inl ⟨_, rfl, _, hp.2, ?_, ?_, ?_⟩⟩
        · rw [List.length_map, List.length_take]
          exact Nat.lt_of_le_of_lt (Nat.min_le_left _ _) (small1000 (by
            have := (List.getElem?_eq_some_iff.mp hz).1
            omega))
        · exact fun b o e => by
            rw [upd_ne (ne_of_none e nD)]
            exact hp.1 b o e
        · rw [upd_same, List.take_add_one, hz, List.map_append]
          rfl
      · rw [List.length_map] at hp
        refine ⟨D, rfl, nD0, s1.trans hp.1, ?_⟩
        rw [hp.2, List.take_length]
    · obtain ⟨c, rfl, nc, s1, hc⟩ := hM
      refine ⟨_, rfl, c, _, rfl, .inl (SqL.of hc), _, _, rfl, rfl, .inl (by decide), _, _, rfl, rfl, ?_⟩
      refine ⟨_, rfl, c, rfl, ⟨_, SqL.of hc⟩, for_list (K := K) (a := c) (xs := ns.map V.int) (fun i σ H2 => H2 = H1 ∧ ∃ (y1 : Option V) (m : Int), σ = [some (.ref a), y1, some (.ref c), some (.int m)] ∧ 0 ≤ m ∧ m < 1000000000000) ?_ (fun i σ H2 _ hp => by rw [hp.1]; exact SqL.of hc) (fun i x σ H2 hx hp => ?_) (fun σ H2 hp => ?_)⟩
      · refine ⟨rfl, _, _, rfl, ?_⟩
        rw [List.length_map]
        omega
      · obtain ⟨rfl, y1, m, rfl, h0, h1⟩ := hp
        rw [List.getElem?_map] at hx
        obtain ⟨z, hz, rfl⟩ := Option.map_eq_some_iff.mp hx
        exact ⟨_, rfl, _, _, rfl, rfl, .inr (by decide), _, rfl, _, _, rfl, rfl, .inl ⟨_, rfl, _, _, rfl, rfl, (by show (0 : Int) < _; decide), rfl, _, _, rfl, Int.emod_nonneg _ (by decide), Int.lt_trans (Int.emod_lt_of_pos _ (by decide)) (by decide)⟩⟩
      · obtain ⟨rfl, y1, m, rfl, h0, h1⟩ := hp
        refine ⟨_, rfl, _, rfl, Nat.le_trans (by decide : 4 ≤ 1000) (Nat.le_of_lt (small1000 (Nat.le_refl _))), fun p np => ?_⟩
        refine q p c _ (s1.free np) nc (s1.trans (same_upd np)) ⟨ns, 0, 0, m, upd_same, ?_, ne_of_none hc np, hlen, Int.le_refl _⟩
        rw [upd_ne (ne_of_none hc np)]
        exact hc
/-! ### the row's own draw -/
def spAny : Sp := fun vs H Q _ => ∃ (a c r : Addr) (xs : List V), vs = [.ref a, .ref r] ∧ FeedOk H a c ∧ H r = some (.lst xs) ∧ r ≠ a ∧ 0 < xs.length ∧ xs.length ≤ 1000 ∧ ∀ v H', v ∈ xs → FeedOk H' a c → But a H H' → Q v H'
theorem mid_small {n : Nat} (h0 : 0 < n) (h : n ≤ 1000) : Mid (n : Int) := ⟨by omega, by
  rw [Int.natAbs_natCast]
  exact Nat.lt_of_le_of_lt (Nat.log2_le_self n) (by omega)⟩
theorem ok_any (T : Txt K mg fa fd) : FnOk P w K mg base CX0 2 (fa 29) (fd 29) ["_law_feed_here", "_law_row"] spAny := by
  refine T.F_any.ok sc_any (fun vs H Q E h => ?_) (fun cdv A outer s H vs Q E hr h => ?_)
  · obtain ⟨a, c, m, xs, rfl, _⟩ := h
    rfl
  · obtain ⟨a, c, r, xs, rfl, hF, hx, nra, h0, h1, q⟩ := h
    refine ⟨_, (pss_one (ps_ret (pe_ix ix_list (pv 1) (pe_call (ok_draw T) (hr.mono (by decide)) (by rfl) T.g_draw T.F_draw.kp T.b_draw .nil pass0 (pa_cons (pv 0) (pa_cons (pe_callB call_len_seq (by rfl) T.m_len PySem.boot_len (pa_cons (pv 1) pa_nil)) pa_nil))) (fun _ _ => rfl)))), ?_⟩
    refine ⟨_, rfl, _, rfl, _, rfl, r, _, rfl, .inl (SqL.of hx), a, c, _, rfl, hF, mid_small h0 h1, fun z H' z0 z1 hF' b => ?_⟩
    have hz : z.toNat < xs.length := by omega
    exact ⟨r, xs, z, xs[z.toNat], rfl, rfl, SqL.of (b _ _ nra hx), at_of (j := z.toNat) (by omega) (List.getElem?_eq_getElem hz), q _ _ (List.getElem_mem hz) hF' b⟩
/-! ### the greatest common divisor -/
def spGcd : Sp := fun vs H Q _ => ∃ x y : Int, vs = [.int x, .int y] ∧ Q (.int (Int.gcd x y : Nat)) H
theorem ok_gcd (T : Txt K mg fa fd) : FnOk P w K mg base CX0 1 (fa 31) (fd 31) ["_law_one", "_law_two"] spGcd := by
  refine T.F_gcd.ok sc_gcd (fun vs H Q E h => ?_) (fun cdv A outer s H vs Q E hr h => ?_)
  · obtain ⟨x, y, rfl, _⟩ := h
    rfl
  · obtain ⟨x, y, rfl, q⟩ := h
    refine ⟨_, (pss_cons (ps_par (i := 0) (j := 1) (by rfl) sc_gcd.nd rfl rfl (by decide) rfl rfl (pa_cons (pe_callB call_abs (by rfl) T.m_abs PyProof.Rows.boot_abs (pa_cons (pv 0) pa_nil)) (pa_cons (pe_callB call_abs (by rfl) T.m_abs PyProof.Rows.boot_abs (pa_cons (pv 1) pa_nil)) pa_nil)) (by rfl))
      (pss_cons (ps_while PassesOwn.never (pt_cmpR op_ne (pv 1) pe_int (nomark _)) (pss_one (ps_par (i := 0) (j := 1) (by rfl) sc_gcd.nd rfl rfl (by decide) rfl rfl (pa_cons (pv 1) (pa_cons (pe_op op_mod (pe_callTy call_int1 (by rfl) T.m_int PySem.Pv.boot_int (pa_cons (pv 0) pa_nil)) (pv 1)) pa_nil)) (by rfl))))
      (pss_one (ps_ret (pv 0))))), ?_⟩
    refine ⟨_, rfl, _, rfl, _, rfl, _, rfl, _, _, rfl, ?_⟩
    have ab : ∀ z : Int, (if z < 0 then -z else z) = (z.natAbs : Int) := fun z => by split <;> omega
    rw [ab, ab]
    refine ⟨fun m σ H1 => ∃ u v : Nat, m = v ∧ σ = [some (.int (u : Int)), some (.int (v : Int))] ∧ H1 = H ∧ Nat.gcd u v = Int.gcd x y, ⟨_, x.natAbs, y.natAbs, rfl, rfl, rfl, rfl⟩, fun m σ H1 hW => ?_⟩
    obtain ⟨u, v, rfl, rfl, rfl, hg⟩ := hW
    refine ⟨_, rfl, rfl, _, rfl, ?_⟩
    by_cases hv : m = 0
    · subst hv
      rw [decide_eq_true (show V.int ((0 : Nat) : Int) = V.int 0 from rfl)]
      refine ⟨_, rfl, ?_⟩
      rw [Nat.gcd_zero_right] at hg
      rw [hg]
      exact q
    · rw [decide_eq_false (fun e => hv (by have := V.int.inj e; omega))]
      refine ⟨fun σ' H' => ∃ m', m' < m ∧ ∃ u v : Nat, m' = v ∧ σ' = [some (.int (u : Int)), some (.int (v : Int))] ∧ H' = H1 ∧ Nat.gcd u v = Int.gcd x y, fun σ' H' h => h, ?_⟩
      refine ⟨_, rfl, _, rfl, .inl ⟨_, rfl, _, rfl, _, _, rfl, rfl, (by show (0 : Int) < _; omega), ?_⟩⟩
      refine ⟨_, _, rfl, u % m, Nat.mod_lt _ (by omega), m, u % m, rfl, rfl, rfl, ?_⟩
      rw [← hg, Nat.gcd_comm m, ← Nat.gcd_rec, Nat.gcd_comm]
/-! ### lowest terms -/
def CDivG (_ j : Int) : Prop := j ≠ 0 ∧ j.natAbs.log2 < 9000
theorem op_fdivG {X : Cx} : OpR X (binaryOp .FloorDiv) (rI CDivG fun i j => .int (i.fdiv j)) := opI fun _ _ _ _ _ _ _ hc q => floordiv_int hc.1 q (.inl (PyProof.noPylong_of_log2 hc.2))
def lowG (u v : Int) : Int := if v < 0 then -(Int.gcd u v : Nat) else (Int.gcd u v : Nat)
def lowT (u v : Int) : Int := u.fdiv (lowG u v)
def lowD (u v : Int) : Int := v.fdiv (lowG u v)
theorem gcd_pos {u v : Int} (h : v ≠ 0) : 0 < Int.gcd u v := Nat.pos_of_ne_zero fun e => h (Int.gcd_eq_zero_iff.mp e).2
theorem gcd_le {u v : Int} (h : v ≠ 0) : Int.gcd u v ≤ v.natAbs := Nat.le_of_dvd (by omega) (Nat.gcd_dvd_right _ _)
theorem log2_mono {a b k : Nat} (h : a ≤ b) (hb : b.log2 < k) : a.log2 < k := by
  by_cases h0 : a = 0
  · subst h0
    rw [Nat.log2_zero]
    omega
  · have hb0 : b ≠ 0 := by omega
    exact (Nat.log2_lt h0).mpr (Nat.lt_of_le_of_lt h ((Nat.log2_lt hb0).mp hb))
theorem lowG_ok {u v : Int} (h : v ≠ 0) (h9 : v.natAbs.log2 < 4096) : CDivG u (lowG u v) := by
  have h1 := gcd_pos (u := u) h
  have h2 := gcd_le (u := u) h
  unfold lowG
  split
  · exact ⟨by omega, by rw [Int.natAbs_neg, Int.natAbs_natCast]; exact Nat.lt_trans (log2_mono h2 h9) (by decide)⟩
  · exact ⟨by omega, by rw [Int.natAbs_natCast]; exact Nat.lt_trans (log2_mono h2 h9) (by decide)⟩
def spLow : Sp := fun vs H Q _ => ∃ u v : Int, vs = [.int u, .int v] ∧ v ≠ 0 ∧ v.natAbs.log2 < 4096 ∧ ∀ p, H p = none → Q (.ref p) (upd H p (.tup [.int (lowT u v), .int (lowD u v)]))
theorem two_line : 2 ≤ sizeLine := Nat.le_trans (by decide : 2 ≤ 1000) (Nat.le_of_lt (small1000 (Nat.le_refl _)))
theorem ok_low (T : Txt K mg fa fd) : FnOk P w K mg base CX0 2 (fa 32) (fd 32) ["_law_upper", "_law_lower"] spLow := by
  refine T.F_low.ok sc_low (fun vs H Q E h => ?_) (fun cdv A outer s H vs Q E hr h => ?_)
  · obtain ⟨x, y, rfl, _⟩ := h
    rfl
  · obtain ⟨u, v, rfl, h0, h9, q⟩ := h
    refine ⟨_, (pss_cons (ps_set (i := 2) sc_low.nd rfl (.inl rfl) (pe_call (ok_gcd T) (hr.mono (by decide)) (by rfl) T.g_gcd T.F_gcd.kp T.b_gcd .nil pass0 (pa_cons (pv 0) (pa_cons (pv 1) pa_nil))))
      (C8.pss_cut (ps_if (pt_cmpR op_lt (pv 1) pe_int (nomark _)) (pss_one (ps_set (i := 2) sc_low.nd rfl (.inl rfl) (pe_un un_neg (pv 2)))) pss_nil)
      (pss_one (ps_ret (pe_tup (pa_cons (pe_op op_fdivG (pv 0) (pv 2)) (pa_cons (pe_op op_fdivG (pv 1) (pv 2)) pa_nil))))))), ?_⟩
    refine ⟨_, rfl, _, rfl, u, v, rfl, ?_⟩
    refine ⟨fun σ H1 => H1 = H ∧ σ = [some (.int u), some (.int v), some (.int (lowG u v))], ?_, fun σ H1 hM => ?_⟩
    · refine ⟨_, rfl, _, _, rfl, rfl, _, rfl, ite2 (fun e => ?_) (fun e => ?_)⟩
      · refine ⟨_, rfl, _, rfl, rfl, ?_⟩
        unfold lowG
        rw [if_pos (of_decide_eq_true e)]
        rfl
      · refine ⟨rfl, ?_⟩
        unfold lowG
        rw [if_neg (fun z => e (decide_eq_true z))]
        rfl
    · obtain ⟨rfl, rfl⟩ := hM
      have hG := lowG_ok (u := u) h0 h9
      exact ⟨_, rfl, _, rfl, _, _, rfl, rfl, hG, _, rfl, _, rfl, _, _, rfl, rfl, hG, two_line, q⟩
/-! ### sameness of data -/
def Leaf (v w : V) : Prop := v = w ∧ (v = .non ∨ (∃ b, v = .bl b) ∨ (∃ i, v = .int i) ∨ ∃ x, v = .str x)
def Eqd (H : Hp) : Nat → V → V → Prop
  | 0, v, w => Leaf v w
  | n + 1, v, w => Leaf v w ∨ ∃ (a b : Addr) (xs ys : List V), v = .ref a ∧ w = .ref b ∧ ((H a = some (.lst xs) ∧ H b = some (.lst ys)) ∨ (H a = some (.tup xs) ∧ H b = some (.tup ys))) ∧ xs.length = ys.length ∧ xs.length ≤ 1000 ∧
      ∀ (i : Nat) (x y : V), xs[i]? = some x → ys[i]? = some y → Eqd H n x y
theorem Eqd.leaf {H : Hp} {n : Nat} {v w : V} (h : Leaf v w) : Eqd H n v w := by
  cases n with
  | zero => exact h
  | succ n => exact .inl h
theorem Eqd.mono {H H' : Hp} (s : Same H H') : ∀ (n : Nat) {v w : V}, Eqd H n v w → Eqd H' n v w
  | 0, _, _, h => h
  | n + 1, _, _, h => by
    rcases h with h | ⟨a, b, xs, ys, e1, e2, h, l1, l2, r⟩
    · exact .inl h
    · refine .inr ⟨a, b, xs, ys, e1, e2, ?_, l1, l2, fun i x y h1 h2 => Eqd.mono s n (r i x y h1 h2)⟩
      rcases h with ⟨h1, h2⟩ | ⟨h1, h2⟩
      · exact .inl ⟨s _ _ h1, s _ _ h2⟩
      · exact .inr ⟨s _ _ h1, s _ _ h2⟩
def spSame (n : Nat) : Sp := fun vs H Q _ => ∃ v w : V, vs = [v, w] ∧ Eqd H n v w ∧ ∀ H', Same H H' → Q (.bl true) H'
def spS : Nat → Sp
  | 0 => fun _ _ _ _ => False
  | n + 1 => spSame n
theorem none_of_false {K : PySem.W.Frag} {f : Addr} {fd : FuncData} {st : Stmt} {x : Str} {N ps : List Str} (F : Fun K x x st f fd) (S : FnScope N ps (defScope st)) : FnOk P w K mg base CX0 1 f fd ps (fun _ _ _ _ => False) :=
  F.ok S (fun _ _ _ _ h => h.elim) fun _ _ _ _ _ _ _ _ _ h => h.elim
theorem kit2 {K : PySem.W.Frag} {a b c : String} {r1 r2 : Bool} (h1 : kitB a b = some r1) (h2 : kitB a c = some r2) : PySem.W.kitAny K (.type a) [.type b, .type c] = some (r1 || r2) := by
  cases r1 with
  | true => exact kitAny_cons (kit_ty h1) (fun h => nomatch h) fun _ => rfl
  | false =>
    refine kitAny_cons (kit_ty h1) (fun _ => ?_) fun h => nomatch h
    cases r2 with
    | true => exact kitAny_cons (kit_ty h2) (fun h => nomatch h) fun _ => rfl
    | false => exact kitAny_cons (kit_ty h2) (fun _ => kitAny_nil) fun h => nomatch h
theorem same_step (T : Txt K mg fa fd) (n : Nat) (G : FnOk P w K mg base CX0 (n + 1) (fa 30) (fd 30) ["_law_found", "_law_due"] (spS n)) : FnOk P w K mg base CX0 (n + 2) (fa 30) (fd 30) ["_law_found", "_law_due"] (spSame n) := by
  refine T.F_same.ok sc_same (fun vs H Q E h => ?_) (fun cdv A outer s H vs Q E hr h => ?_)
  · obtain ⟨x, y, rfl, _⟩ := h
    rfl
  · obtain ⟨x, y, rfl, hE, q⟩ := h
    refine ⟨_, (pss_cons (ps_if (pt_cmpR op_isN (pv 1) pe_non (nomark _)) (pss_one (ps_ret (pe_cmpR op_isN (pv 0) pe_non (nomark _)))) pss_nil)
      (pss_cons (ps_if (PW.pt (pw_or (pt_val (pe_callB call_isi (by rfl) T.m_isinstance PyProof.Rows.boot_isinstance (pa_cons (pv 1) (pa_cons (pe_bltn (v := .ty "bool") (by rfl) T.m_bool (by decide +kernel) rfl) pa_nil)))) (pw_or1 (pt_val (pe_callB call_isi (by rfl) T.m_isinstance PyProof.Rows.boot_isinstance (pa_cons (pv 0) (pa_cons (pe_bltn (v := .ty "bool") (by rfl) T.m_bool (by decide +kernel) rfl) pa_nil))))))) (pss_one (ps_ret (pe_and (pe_callB call_isi (by rfl) T.m_isinstance PyProof.Rows.boot_isinstance (pa_cons (pv 1) (pa_cons (pe_bltn (v := .ty "bool") (by rfl) T.m_bool (by decide +kernel) rfl) pa_nil))) (pe_and (pe_callB call_isi (by rfl) T.m_isinstance PyProof.Rows.boot_isinstance (pa_cons (pv 0) (pa_cons (pe_bltn (v := .ty "bool") (by rfl) T.m_bool (by decide +kernel) rfl) pa_nil))) (pe_one (pe_cmpR op_eq (pv 0) (pv 1) (nomark _))))))) pss_nil)
      (pss_cons (ps_if (pt_val (pe_callB call_isiT (by rfl) T.m_isinstance PyProof.Rows.boot_isinstance (pa_cons (pv 1) (pa_cons (pe_tup (pa_cons (pe_bltn (v := .ty "int") (by rfl) T.m_int (by decide +kernel) rfl) (pa_cons (pe_bltn (v := .ty "str") (by rfl) T.m_str (by decide +kernel) rfl) pa_nil))) pa_nil)))) (pss_one (ps_ret (pe_and (pe_callB call_isiT (by rfl) T.m_isinstance PyProof.Rows.boot_isinstance (pa_cons (pv 0) (pa_cons (pe_tup (pa_cons (pe_bltn (v := .ty "int") (by rfl) T.m_int (by decide +kernel) rfl) (pa_cons (pe_bltn (v := .ty "str") (by rfl) T.m_str (by decide +kernel) rfl) pa_nil))) pa_nil))) (pe_and (pe_cmpR op_eq (pe_callB call_isi (by rfl) T.m_isinstance PyProof.Rows.boot_isinstance (pa_cons (pv 0) (pa_cons (pe_bltn (v := .ty "int") (by rfl) T.m_int (by decide +kernel) rfl) pa_nil))) (pe_callB call_isi (by rfl) T.m_isinstance PyProof.Rows.boot_isinstance (pa_cons (pv 1) (pa_cons (pe_bltn (v := .ty "int") (by rfl) T.m_int (by decide +kernel) rfl) pa_nil))) (nomark _)) (pe_one (pe_cmpR op_eq (pv 0) (pv 1) (nomark _))))))) pss_nil)
      (pss_cons (ps_if (pt_val (pe_callB call_isi (by rfl) T.m_isinstance PyProof.Rows.boot_isinstance (pa_cons (pv 1) (pa_cons (pe_bltn (v := .ty "dict") (by rfl) T.m_dict (by decide +kernel) rfl) pa_nil)))) (pss_cons ps_never
      (pss_one ps_never)) pss_nil)
      (pss_cons (ps_if (PW.pt (pw_or (pt_cmpR op_ne (pe_callB call_isi (by rfl) T.m_isinstance PyProof.Rows.boot_isinstance (pa_cons (pv 1) (pa_cons (pe_bltn (v := .ty "list") (by rfl) T.m_list (by decide +kernel) rfl) pa_nil))) (pe_callB call_isi (by rfl) T.m_isinstance PyProof.Rows.boot_isinstance (pa_cons (pv 0) (pa_cons (pe_bltn (v := .ty "list") (by rfl) T.m_list (by decide +kernel) rfl) pa_nil))) (nomark _)) (pw_or1 (pt_cmpR op_ne (pe_callB call_isi (by rfl) T.m_isinstance PyProof.Rows.boot_isinstance (pa_cons (pv 1) (pa_cons (pe_bltn (v := .ty "tuple") (by rfl) T.m_tuple (by decide +kernel) rfl) pa_nil))) (pe_callB call_isi (by rfl) T.m_isinstance PyProof.Rows.boot_isinstance (pa_cons (pv 0) (pa_cons (pe_bltn (v := .ty "tuple") (by rfl) T.m_tuple (by decide +kernel) rfl) pa_nil))) (nomark _))))) (pss_one (ps_ret pe_bl)) pss_nil)
      (pss_one (ps_ret (pe_and (pe_cmpR op_eq (pe_callB call_len_seq (by rfl) T.m_len PySem.boot_len (pa_cons (pv 0) pa_nil)) (pe_callB call_len_seq (by rfl) T.m_len PySem.boot_len (pa_cons (pv 1) pa_nil)) (nomark _)) (pe_one (pe_callB (cr_all rfl) (by rfl) T.m_all PyProof.Rows.boot_all (pa_cons (pe_lc (own := [("_law_one", 3), ("_law_two", 4)]) (g := gTup K 2 (gCons (gName 3) (gCons (gName 4) gNil))) (tt := tYes) rfl sc_same.nd (RZ.pi_zipA (by rfl) T.m_zip (pa_cons (pv 0) (pa_cons (pv 1) pa_nil))) (blkOk_by (own := [("_law_one", 3), ("_law_two", 4)]) (N := ["_law_found", "_law_due", "_law_key", "_law_one", "_law_two"]) (sc := defScope s_same) (by decide +kernel)) (fun _ _ _ _ _ => pg_tup rfl (pgs_cons (pg_name (i := 3) sc_same.nd rfl (Or.inl rfl)) (pgs_cons (pg_name (i := 4) sc_same.nd rfl (Or.inl rfl)) pgs_nil))) (fun _ _ _ _ _ => pts_nil) (fun _ _ _ _ _ => (pe_call G (hr.mono (by omega)) (by rfl) T.g_same T.F_same.kp T.b_same .nil pass0 (pa_cons (pv 3) (pa_cons (pv 4) pa_nil))))) pa_nil))))))))))), ?_⟩
    have leafy : Leaf x y ∨ ∃ (n' : Nat) (a b : Addr) (xs ys : List V), n = n' + 1 ∧ x = .ref a ∧ y = .ref b ∧ ((H a = some (.lst xs) ∧ H b = some (.lst ys)) ∨ (H a = some (.tup xs) ∧ H b = some (.tup ys))) ∧ xs.length = ys.length ∧ xs.length ≤ 1000 ∧
        ∀ (i : Nat) (x y : V), xs[i]? = some x → ys[i]? = some y → Eqd H n' x y := by
      cases n with
      | zero => exact .inl hE
      | succ n' =>
        rcases hE with h | ⟨a, b, xs, ys, h⟩
        · exact .inl h
        · exact .inr ⟨n', a, b, xs, ys, rfl, h⟩
    rcases leafy with ⟨rfl, hl⟩ | ⟨n', a, b, xs, ys, rfl, rfl, rfl, hab, hlen, h1000, hsub⟩
    · refine ⟨_, rfl, rfl, _, rfl, ite2 (fun e => ?_) (fun e => ?_)⟩
      · have ex := of_decide_eq_true e
        subst ex
        exact ⟨_, rfl, rfl, q _ (Same.refl _)⟩
      · rcases hl with rfl | ⟨bb, rfl⟩ | ⟨i, rfl⟩ | ⟨z, rfl⟩
        · exact absurd (decide_eq_true rfl) e
        · refine ⟨_, rfl, _, _, _, _, _, rfl, .ty _, .base (.bl _), kit_ty (r := true) (by decide +kernel), _, rfl, iteT (iteT ?_)⟩
          refine ⟨_, rfl, _, _, _, _, _, rfl, .ty _, .base (.bl _), kit_ty (r := true) (by decide +kernel), _, rfl, iteT ?_⟩
          refine ⟨_, rfl, _, _, _, _, _, rfl, .ty _, .base (.bl _), kit_ty (r := true) (by decide +kernel), _, rfl, iteT ?_⟩
          refine ⟨_, rfl, _, rfl, rfl, ?_⟩
          rw [decide_eq_true rfl]
          exact q _ (Same.refl _)
        · refine ⟨_, rfl, _, _, _, _, _, rfl, .ty _, .base (.int _), kit_ty (r := false) (by decide +kernel), _, rfl, iteF ?_⟩
          refine ⟨_, rfl, _, _, _, _, _, rfl, .ty _, .base (.int _), kit_ty (r := false) (by decide +kernel), _, rfl, iteF ?_⟩
          refine ⟨_, rfl, two_line, fun p np => ?_⟩
          refine ⟨_, p, _, _, _, _, rfl, upd_same, .cons (.ty _) (.cons (.ty _) .nil), .base (.int _), kit2 (r1 := true) (r2 := false) (by decide +kernel) (by decide +kernel), _, rfl, iteT ?_⟩
          refine ⟨_, rfl, two_line, fun p2 np2 => ?_⟩
          refine ⟨_, p2, _, _, _, _, rfl, upd_same, .cons (.ty _) (.cons (.ty _) .nil), .base (.int _), kit2 (r1 := true) (r2 := false) (by decide +kernel) (by decide +kernel), _, rfl, iteT ?_⟩
          refine ⟨_, rfl, _, _, _, _, _, rfl, .ty _, .base (.int _), kit_ty (r := true) (by decide +kernel), ?_⟩
          refine ⟨_, rfl, _, _, _, _, _, rfl, .ty _, .base (.int _), kit_ty (r := true) (by decide +kernel), rfl, _, rfl, iteT ?_⟩
          refine ⟨_, rfl, _, rfl, rfl, ?_⟩
          rw [decide_eq_true rfl]
          exact q _ ((same_upd np).trans (same_upd np2))
        · refine ⟨_, rfl, _, _, _, _, _, rfl, .ty _, .base (.str _), kit_ty (r := false) (by decide +kernel), _, rfl, iteF ?_⟩
          refine ⟨_, rfl, _, _, _, _, _, rfl, .ty _, .base (.str _), kit_ty (r := false) (by decide +kernel), _, rfl, iteF ?_⟩
          refine ⟨_, rfl, two_line, fun p np => ?_⟩
          refine ⟨_, p, _, _, _, _, rfl, upd_same, .cons (.ty _) (.cons (.ty _) .nil), .base (.str _), kit2 (r1 := false) (r2 := true) (by decide +kernel) (by decide +kernel), _, rfl, iteT ?_⟩
          refine ⟨_, rfl, two_line, fun p2 np2 => ?_⟩
          refine ⟨_, p2, _, _, _, _, rfl, upd_same, .cons (.ty _) (.cons (.ty _) .nil), .base (.str _), kit2 (r1 := false) (r2 := true) (by decide +kernel) (by decide +kernel), _, rfl, iteT ?_⟩
          refine ⟨_, rfl, _, _, _, _, _, rfl, .ty _, .base (.str _), kit_ty (r := false) (by decide +kernel), ?_⟩
          refine ⟨_, rfl, _, _, _, _, _, rfl, .ty _, .base (.str _), kit_ty (r := false) (by decide +kernel), rfl, _, rfl, iteT ?_⟩
          refine ⟨_, rfl, _, rfl, rfl, ?_⟩
          rw [decide_eq_true rfl]
          exact q _ ((same_upd np).trans (same_upd np2))
    · refine ⟨_, rfl, rfl, _, rfl, ite2 (fun e => absurd (of_decide_eq_true e) (by intro z; cases z)) (fun e => ?_)⟩
      rcases hab with ⟨ha, hb⟩ | ⟨ha, hb⟩
      · refine ⟨_, rfl, _, _, _, _, _, rfl, .ty _, .base (.lst hb), kit_ty (r := false) (by decide +kernel), _, rfl, iteF ⟨_, rfl, _, _, _, _, _, rfl, .ty _, .base (.lst ha), kit_ty (r := false) (by decide +kernel), _, rfl, iteF ⟨_, rfl, two_line, fun p np => ?_⟩⟩⟩
        have s1 := same_upd (o := .tup [V.ty "int", V.ty "str"]) np
        refine ⟨_, p, _, _, _, _, rfl, upd_same, .cons (.ty _) (.cons (.ty _) .nil), .base (.lst (s1 _ _ hb)), kit2 (r1 := false) (r2 := false) (by decide +kernel) (by decide +kernel), _, rfl, iteF ?_⟩
        generalize upd H p (.tup [V.ty "int", V.ty "str"]) = H2 at s1
        have ha2 := s1 _ _ ha
        have hb2 := s1 _ _ hb
        refine ⟨_, rfl, _, _, _, _, _, rfl, .ty _, .base (.lst hb2), kit_ty (r := false) (by decide +kernel), _, rfl, iteF ?_⟩
        refine ⟨_, rfl, _, _, _, _, _, rfl, .ty _, .base (.lst hb2), kit_ty (r := true) (by decide +kernel), _, rfl, _, _, _, _, _, rfl, .ty _, .base (.lst ha2), kit_ty (r := true) (by decide +kernel), rfl, _, rfl, iteF ?_⟩
        refine ⟨_, rfl, _, _, _, _, _, rfl, .ty _, .base (.lst hb2), kit_ty (r := false) (by decide +kernel), _, rfl, _, _, _, _, _, rfl, .ty _, .base (.lst ha2), kit_ty (r := false) (by decide +kernel), rfl, _, rfl, iteF ?_⟩
        refine ⟨_, rfl, a, _, rfl, .inl (SqL.of ha2), _, rfl, b, _, rfl, .inl (SqL.of hb2), rfl, _, rfl, ?_⟩
        rw [hlen, decide_eq_true rfl]
        refine iteT ⟨_, rfl, _, rfl, a, b, xs, ys, rfl, .inl ⟨SqL.of ha2, SqL.of hb2, fun D nD => ?_⟩⟩
        refine ⟨fun i m H' => i + m = xs.length ∧ Same H2 H' ∧ H' D = some (.lst ((List.replicate i true).map V.bl)), ⟨xs.length, by omega, same_upd nD, upd_same⟩, fun i m H' hW => ?_⟩
        obtain ⟨hm, s2, hD⟩ := hW
        by_cases hi : i < xs.length
        · have hx : xs[i]? = some xs[i] := List.getElem?_eq_getElem hi
          have hy : ys[i]? = some ys[i] := List.getElem?_eq_getElem (by omega)
          refine .inr ⟨⟨_, _, _, _, SqL.of (s2 _ _ ha2), SqL.of (s2 _ _ hb2), hx, hy⟩, fun H'' => Same H2 H'' ∧ H'' D = some (.lst ((List.replicate (i + 1) true).map V.bl)), fun H'' h => ⟨m - 1, by omega, by omega, h⟩, fun v H'' hv => ?_⟩
          obtain ⟨T', x1, y1, rfl, nT, rfl, f1, f2⟩ := hv
          have ex : x1 = xs[i] := Option.some.inj ((f1 _ (SqL.of (s2 _ _ ha2))).symm.trans hx)
          have ey : y1 = ys[i] := Option.some.inj ((f2 _ (SqL.of (s2 _ _ hb2))).symm.trans hy)
          have s3 : Same H' (upd H' T' (.tup [x1, y1])) := same_upd nT
          refine ⟨T', [x1, y1], rfl, .inl (.inl upd_same), rfl, x1, [y1], rfl, y1, [], rfl, rfl, rfl, ?_⟩
          refine ⟨_, rfl, _, rfl, x1, y1, rfl, ?_, fun H4 s4 => ⟨_, s4 _ _ (s3 _ _ hD), ?_, ?_, ?_⟩⟩
          · subst ex ey
            exact Eqd.mono (s1.trans (s2.trans s3)) n' (hsub i _ _ hx hy)
          · rw [List.length_map, List.length_replicate]
            exact small1000 (by omega)
          · intro c o e
            rw [upd_ne (ne_of_none e nD)]
            exact s4 _ _ (s3 _ _ (s2 _ _ e))
          · rw [upd_same, List.replicate_succ', List.map_append]
            rfl
        · have ei : i = xs.length := by omega
          subst ei
          refine .inl ⟨⟨xs, ys, SqL.of (s2 _ _ ha2), SqL.of (s2 _ _ hb2), .inl (Nat.le_refl _)⟩, ?_⟩
          refine ⟨D, _, rfl, .inl (.inl hD), ?_⟩
          have all : ∀ k : Nat, (List.replicate k true).all id = true := fun k => by
            rw [List.all_replicate]
            split <;> rfl
          rw [all]
          exact q _ (s1.trans s2)
      · refine ⟨_, rfl, _, _, _, _, _, rfl, .ty _, .base (.tup hb), kit_ty (r := false) (by decide +kernel), _, rfl, iteF ⟨_, rfl, _, _, _, _, _, rfl, .ty _, .base (.tup ha), kit_ty (r := false) (by decide +kernel), _, rfl, iteF ⟨_, rfl, two_line, fun p np => ?_⟩⟩⟩
        have s1 := same_upd (o := .tup [V.ty "int", V.ty "str"]) np
        refine ⟨_, p, _, _, _, _, rfl, upd_same, .cons (.ty _) (.cons (.ty _) .nil), .base (.tup (s1 _ _ hb)), kit2 (r1 := false) (r2 := false) (by decide +kernel) (by decide +kernel), _, rfl, iteF ?_⟩
        generalize upd H p (.tup [V.ty "int", V.ty "str"]) = H2 at s1
        have ha2 := s1 _ _ ha
        have hb2 := s1 _ _ hb
        refine ⟨_, rfl, _, _, _, _, _, rfl, .ty _, .base (.tup hb2), kit_ty (r := false) (by decide +kernel), _, rfl, iteF ?_⟩
        refine ⟨_, rfl, _, _, _, _, _, rfl, .ty _, .base (.tup hb2), kit_ty (r := false) (by decide +kernel), _, rfl, _, _, _, _, _, rfl, .ty _, .base (.tup ha2), kit_ty (r := false) (by decide +kernel), rfl, _, rfl, iteF ?_⟩
        refine ⟨_, rfl, _, _, _, _, _, rfl, .ty _, .base (.tup hb2), kit_ty (r := true) (by decide +kernel), _, rfl, _, _, _, _, _, rfl, .ty _, .base (.tup ha2), kit_ty (r := true) (by decide +kernel), rfl, _, rfl, iteF ?_⟩
        refine ⟨_, rfl, a, _, rfl, .inr (SqT.of ha2), _, rfl, b, _, rfl, .inr (SqT.of hb2), rfl, _, rfl, ?_⟩
        rw [hlen, decide_eq_true rfl]
        refine iteT ⟨_, rfl, _, rfl, a, b, xs, ys, rfl, .inr ⟨SqT.of ha2, SqT.of hb2, fun D nD => ?_⟩⟩
        refine ⟨fun i m H' => i + m = xs.length ∧ Same H2 H' ∧ H' D = some (.lst ((List.replicate i true).map V.bl)), ⟨xs.length, by omega, same_upd nD, upd_same⟩, fun i m H' hW => ?_⟩
        obtain ⟨hm, s2, hD⟩ := hW
        by_cases hi : i < xs.length
        · have hx : xs[i]? = some xs[i] := List.getElem?_eq_getElem hi
          have hy : ys[i]? = some ys[i] := List.getElem?_eq_getElem (by omega)
          refine .inr ⟨⟨_, _, _, _, SqT.of (s2 _ _ ha2), SqT.of (s2 _ _ hb2), hx, hy⟩, fun H'' => Same H2 H'' ∧ H'' D = some (.lst ((List.replicate (i + 1) true).map V.bl)), fun H'' h => ⟨m - 1, by omega, by omega, h⟩, fun v H'' hv => ?_⟩
          obtain ⟨T', x1, y1, rfl, nT, rfl, f1, f2⟩ := hv
          have ex : x1 = xs[i] := Option.some.inj ((f1 _ (SqT.of (s2 _ _ ha2))).symm.trans hx)
          have ey : y1 = ys[i] := Option.some.inj ((f2 _ (SqT.of (s2 _ _ hb2))).symm.trans hy)
          have s3 : Same H' (upd H' T' (.tup [x1, y1])) := same_upd nT
          refine ⟨T', [x1, y1], rfl, .inl (.inl upd_same), rfl, x1, [y1], rfl, y1, [], rfl, rfl, rfl, ?_⟩
          refine ⟨_, rfl, _, rfl, x1, y1, rfl, ?_, fun H4 s4 => ⟨_, s4 _ _ (s3 _ _ hD), ?_, ?_, ?_⟩⟩
          · subst ex ey
            exact Eqd.mono (s1.trans (s2.trans s3)) n' (hsub i _ _ hx hy)
          · rw [List.length_map, List.length_replicate]
            exact small1000 (by omega)
          · intro c o e
            rw [upd_ne (ne_of_none e nD)]
            exact s4 _ _ (s3 _ _ (s2 _ _ e))
          · rw [upd_same, List.replicate_succ', List.map_append]
            rfl
        · have ei : i = xs.length := by omega
          subst ei
          refine .inl ⟨⟨xs, ys, SqT.of (s2 _ _ ha2), SqT.of (s2 _ _ hb2), .inl (Nat.le_refl _)⟩, ?_⟩
          refine ⟨D, _, rfl, .inl (.inl hD), ?_⟩
          have all : ∀ k : Nat, (List.replicate k true).all id = true := fun k => by
            rw [List.all_replicate]
            split <;> rfl
          rw [all]
          exact q _ (s1.trans s2)
theorem ok_same (T : Txt K mg fa fd) : ∀ n : Nat, FnOk P w K mg base CX0 (n + 1) (fa 30) (fd 30) ["_law_found", "_law_due"] (spS n)
  | 0 => none_of_false T.F_same sc_same
  | n + 1 => same_step T n (ok_same T n)
end
/-! ### more of lowest terms -/
theorem lowG_ne {u v : Int} (h : v ≠ 0) : lowG u v ≠ 0 := by
  have h1 := gcd_pos (u := u) h
  unfold lowG
  split <;> omega
theorem lowG_dvd_left (u v : Int) : lowG u v ∣ u := by
  unfold lowG
  split
  · exact Int.neg_dvd.mpr (Int.gcd_dvd_left _ _)
  · exact (Int.gcd_dvd_left _ _)
theorem lowG_dvd_right (u v : Int) : lowG u v ∣ v := by
  unfold lowG
  split
  · exact Int.neg_dvd.mpr (Int.gcd_dvd_right _ _)
  · exact (Int.gcd_dvd_right _ _)
theorem lowT_mul {u v : Int} (h : v ≠ 0) : u = lowG u v * lowT u v := by
  obtain ⟨t, ht⟩ := lowG_dvd_left u v
  unfold lowT
  generalize lowG u v = g at ht ⊢
  have hg : g ≠ 0 ∨ g = 0 := by omega
  rcases hg with hg | hg
  · rw [ht, Int.mul_fdiv_cancel_left _ hg]
  · rw [ht, hg, Int.zero_mul, Int.zero_mul]
theorem lowT_abs {u v : Int} (h : v ≠ 0) : (lowT u v).natAbs ≤ u.natAbs := by
  have e := lowT_mul (u := u) h
  have h2 : u.natAbs = (lowG u v).natAbs * (lowT u v).natAbs := by
    rw [← Int.natAbs_mul, ← e]
  have h3 : 1 ≤ (lowG u v).natAbs := by
    have := lowG_ne (u := u) h
    omega
  calc (lowT u v).natAbs = 1 * (lowT u v).natAbs := (Nat.one_mul _).symm
    _ ≤ (lowG u v).natAbs * (lowT u v).natAbs := Nat.mul_le_mul_right _ h3
    _ = u.natAbs := h2.symm
theorem lowD_mul {u v : Int} (h : v ≠ 0) : v = lowG u v * lowD u v := by
  obtain ⟨t, ht⟩ := lowG_dvd_right u v
  have hg := lowG_ne (u := u) h
  unfold lowD
  generalize lowG u v = g at ht hg ⊢
  rw [ht, Int.mul_fdiv_cancel_left _ hg]
theorem lowD_abs {u v : Int} (h : v ≠ 0) : (lowD u v).natAbs ≤ v.natAbs := by
  have e := lowD_mul (u := u) h
  have h2 : v.natAbs = (lowG u v).natAbs * (lowD u v).natAbs := by
    rw [← Int.natAbs_mul, ← e]
  have h3 : 1 ≤ (lowG u v).natAbs := by
    have := lowG_ne (u := u) h
    omega
  calc (lowD u v).natAbs = 1 * (lowD u v).natAbs := (Nat.one_mul _).symm
    _ ≤ (lowG u v).natAbs * (lowD u v).natAbs := Nat.mul_le_mul_right _ h3
    _ = v.natAbs := h2.symm
theorem lowD_pos {u v : Int} (h : v ≠ 0) : 0 < lowD u v := by
  have e := lowD_mul (u := u) h
  have h1 := gcd_pos (u := u) h
  have key : ∀ g d : Int, v = g * d → (0 < g ∧ 0 < v) ∨ (g < 0 ∧ v < 0) → 0 < d := fun g d ev hh => by
    rcases Int.lt_trichotomy d 0 with hd | hd | hd
    · rcases hh with ⟨h1, h2⟩ | ⟨h1, h2⟩
      · have := Int.mul_neg_of_pos_of_neg h1 hd
        omega
      · have := Int.mul_pos_of_neg_of_neg h1 hd
        omega
    · rw [hd, Int.mul_zero] at ev
      omega
    · exact hd
  refine key _ _ e ?_
  unfold lowG
  split
  · exact .inr ⟨by omega, by assumption⟩
  · exact .inl ⟨by omega, by omega⟩
theorem low_gcd {u v : Int} (hv : v ≠ 0) : Int.gcd (lowT u v) (lowD u v) = 1 := by
  have e1 := lowT_mul (u := u) hv
  have e2 := lowD_mul (u := u) hv
  have hg := gcd_pos (u := u) hv
  have e3 : Int.gcd u v = (lowG u v).natAbs * Int.gcd (lowT u v) (lowD u v) := by
    have : Int.gcd (lowG u v * lowT u v) (lowG u v * lowD u v) = (lowG u v).natAbs * Int.gcd (lowT u v) (lowD u v) := Int.gcd_mul_left _ _ _
    rw [← e1, ← e2] at this
    exact this
  have e4 : (lowG u v).natAbs = Int.gcd u v := by
    unfold lowG
    split <;> omega
  rw [e4] at e3
  have e5 : Int.gcd u v * 1 = Int.gcd u v * Int.gcd (lowT u v) (lowD u v) := by rw [Nat.mul_one]; exact e3
  exact (Nat.eq_of_mul_eq_mul_left hg e5).symm
/-! ### data in the heap -/
mutual
inductive Dt (z : Addr) (H : Hp) : V → PyData → Prop
  | non : Dt z H .non .none
  | bl (b : Bool) : Dt z H (.bl b) (.bool b)
  | int (i : Int) (h : i.natAbs.log2 < 4096) : Dt z H (.int i) (.int i)
  | str (x : Str) (h : x.length ≤ 1000) : Dt z H (.str x) (.str x)
  | lst {a : Addr} {xs : List V} {ds : List PyData} : H a = some (.lst xs) → a ≠ z → DtAll z H xs ds → Dt z H (.ref a) (.list ds)
  | tup {a : Addr} {xs : List V} {ds : List PyData} : H a = some (.tup xs) → DtAll z H xs ds → Dt z H (.ref a) (.tuple ds)
inductive DtAll (z : Addr) (H : Hp) : List V → List PyData → Prop
  | nil : DtAll z H [] []
  | cons {v : V} {vs : List V} {d : PyData} {ds : List PyData} : Dt z H v d → DtAll z H vs ds → DtAll z H (v :: vs) (d :: ds)
end
mutual
theorem Dt.via {z : Addr} {H H' : Hp} (s : ∀ a o, H a = some o → ((∃ xs, o = .lst xs) ∧ a ≠ z) ∨ (∃ xs, o = .tup xs) → H' a = some o) : ∀ (d : PyData) (v : V), Dt z H v d → Dt z H' v d
  | .none, _, h => by cases h; exact .non
  | .bool _, _, h => by cases h; exact .bl _
  | .int _, _, h => by
    cases h with
    | int _ hb => exact .int _ hb
  | .str _, _, h => by
    cases h with
    | str _ hx => exact .str _ hx
  | .list ds, _, h => by
    cases h with
    | lst h1 hz h2 => exact .lst (s _ _ h1 (.inl ⟨⟨_, rfl⟩, hz⟩)) hz (DtAll.via s ds _ h2)
  | .tuple ds, _, h => by
    cases h with
    | tup h1 h2 => exact .tup (s _ _ h1 (.inr ⟨_, rfl⟩)) (DtAll.via s ds _ h2)
  | .dict _, _, h => by cases h
theorem DtAll.via {z : Addr} {H H' : Hp} (s : ∀ a o, H a = some o → ((∃ xs, o = .lst xs) ∧ a ≠ z) ∨ (∃ xs, o = .tup xs) → H' a = some o) : ∀ (ds : List PyData) (vs : List V), DtAll z H vs ds → DtAll z H' vs ds
  | [], _, h => by cases h; exact .nil
  | d :: ds, _, h => by
    cases h with
    | cons h1 h2 => exact .cons (Dt.via s d _ h1) (DtAll.via s ds _ h2)
end
theorem Dt.same {z : Addr} {H H' : Hp} {v : V} {d : PyData} (h : Dt z H v d) (s : Same H H') : Dt z H' v d := Dt.via (fun a o e _ => s a o e) d v h
theorem DtAll.same {z : Addr} {H H' : Hp} {vs : List V} {ds : List PyData} (h : DtAll z H vs ds) (s : Same H H') : DtAll z H' vs ds := DtAll.via (fun a o e _ => s a o e) ds vs h
theorem DtAll.len {z : Addr} {H : Hp} : ∀ {vs : List V} {ds : List PyData}, DtAll z H vs ds → vs.length = ds.length
  | _, _, .nil => rfl
  | _, _, .cons _ h => congrArg (· + 1) (DtAll.len h)
mutual
theorem Dt.dp {K : PySem.W.Frag} {z : Addr} {H : Hp} : ∀ (d : PyData) (v : V), Dt z H v d → Dp K H v d
  | .none, _, h => by cases h; exact .non
  | .bool _, _, h => by cases h; exact .bl _
  | .int _, _, h => by cases h; exact .int _
  | .str _, _, h => by cases h; exact .str _
  | .list ds, _, h => by
    cases h with
    | lst h1 _ h2 => exact .lst (SqL.of h1) (DtAll.dp ds _ h2)
  | .tuple ds, _, h => by
    cases h with
    | tup h1 h2 => exact .tup (SqT.of h1) (DtAll.dp ds _ h2)
  | .dict _, _, h => by cases h
theorem DtAll.dp {K : PySem.W.Frag} {z : Addr} {H : Hp} : ∀ (ds : List PyData) (vs : List V), DtAll z H vs ds → DpAll K H vs ds
  | [], _, h => by cases h; exact .nil
  | d :: ds, _, h => by
    cases h with
    | cons h1 h2 => exact .cons (Dt.dp d _ h1) (DtAll.dp ds _ h2)
end
theorem Dt.but {z : Addr} {H H' : Hp} {v : V} {d : PyData} {c : Addr} (hF : FeedOk H z c) (b : But z H H') (h : Dt z H v d) : Dt z H' v d := by
  obtain ⟨ns, k, big, mark, ha, _⟩ := hF
  refine Dt.via (fun p o e g => b p o ?_ e) d v h
  rcases g with ⟨_, g⟩ | ⟨xs, rfl⟩
  · exact g
  · exact ne_of e ha (by intro z; cases z)
theorem dnewT {z : Addr} {H : Hp} {p : Addr} {vs : List V} {ds : List PyData} (n : H p = none) (h : DtAll z H vs ds) : Same H (upd H p (.tup vs)) ∧ Dt z (upd H p (.tup vs)) (.ref p) (.tuple ds) :=
  ⟨same_upd n, .tup upd_same (h.same (same_upd n))⟩
theorem dnewL {z : Addr} {H : Hp} {p : Addr} {vs : List V} {ds : List PyData} (n : H p = none) (hz : p ≠ z) (h : DtAll z H vs ds) : Same H (upd H p (.lst vs)) ∧ Dt z (upd H p (.lst vs)) (.ref p) (.list ds) :=
  ⟨same_upd n, .lst upd_same hz (h.same (same_upd n))⟩
theorem drow {z : Addr} {H : Hp} {p : Addr} {vs : List V} {ds : List PyData} (n : H p = none) (h : DtAll z H vs ds) : Same H (upd H p (.lst vs)) ∧ DtAll z (upd H p (.lst vs)) vs ds ∧ (upd H p (.lst vs)) p = some (.lst vs) :=
  ⟨same_upd n, h.same (same_upd n), upd_same⟩
theorem DtAll.mem {z : Addr} {H : Hp} : ∀ {vs : List V} {ds : List PyData} {v : V}, DtAll z H vs ds → v ∈ vs → ∃ d, d ∈ ds ∧ Dt z H v d
  | _, _, _, .cons (d := d) h r, e => by
    rcases List.mem_cons.mp e with rfl | e
    · exact ⟨d, List.mem_cons_self, h⟩
    · obtain ⟨d', h1, h2⟩ := DtAll.mem r e
      exact ⟨d', List.mem_cons_of_mem _ h1, h2⟩
def tagD : PyData → String
  | .none => "NoneType"
  | .bool _ => "bool"
  | .int _ => "int"
  | .str _ => "str"
  | .list _ => "list"
  | .tuple _ => "tuple"
  | .dict _ => "dict"
theorem Dt.ty {K : PySem.W.Frag} {z : Addr} {H : Hp} {v : V} {d : PyData} (h : Dt z H v d) : TyOf K H v (.type (tagD d)) := by
  cases h with
  | non => exact .non
  | bl b => exact .bl b
  | int i _ => exact .int i
  | str x _ => exact .str x
  | lst h _ _ => exact .lst h
  | tup h _ => exact .tup h
def isTup : PyData → Bool
  | .tuple _ => true
  | _ => false
def isTxt : PyData → Bool
  | .str _ => true
  | _ => false
def isInt : PyData → Bool
  | .int _ => true
  | _ => false
theorem kitTup {d : PyData} : kitB (tagD d) "tuple" = some (isTup d) := by cases d <;> rfl
theorem kitTxt {d : PyData} : kitB (tagD d) "str" = some (isTxt d) := by cases d <;> rfl
theorem Dt.split {z : Addr} {H : Hp} {v : V} {d : PyData} (h : Dt z H v d) : isTup d = false ∨ ∃ a xs ds, v = .ref a ∧ d = .tuple ds ∧ H a = some (.tup xs) ∧ DtAll z H xs ds := by
  cases h with
  | tup h1 h2 => exact .inr ⟨_, _, _, rfl, rfl, h1, h2⟩
  | non => exact .inl rfl
  | bl b => exact .inl rfl
  | int i _ => exact .inl rfl
  | str x _ => exact .inl rfl
  | lst h _ _ => exact .inl rfl
/-! ### what is a name, a fraction, a tie -/
def nameD : PyData → Bool
  | .str x => nameB x.cps.toList
  | _ => false
def ratD : PyData → Bool
  | .tuple [.int t, .int u] => decide (1 ≤ u) && decide (Int.gcd t u = 1)
  | _ => false
def nonz : PyData → Bool
  | .tuple (.int t :: _) => decide (t ≠ 0)
  | _ => false
def termD : PyData → Bool
  | .tuple [n, r] => nameD n && ratD r && nonz r
  | _ => false
def ltD : PyData → PyData → Bool
  | .tuple (.str x :: _), .tuple (.str y :: _) => decide (x.cps.toList < y.cps.toList)
  | _, _ => false
def termsD : PyData → Bool
  | .tuple [s] => termD s
  | .tuple [s, t] => termD s && termD t && ltD s t
  | _ => false
def tieD : PyData → Bool
  | .tuple [t, b] => termsD t && ratD b
  | _ => false
mutual
def noL : PyData → Bool
  | .list _ => false
  | .dict _ => false
  | .tuple ds => noLs ds
  | _ => true
def noLs : List PyData → Bool
  | [] => true
  | d :: ds => noL d && noLs ds
end
/-- tuples stay -/
def TT (H H' : Hp) : Prop := ∀ p xs, H p = some (.tup xs) → H' p = some (.tup xs)
theorem TT.of {H H' : Hp} (s : Same H H') : TT H H' := fun p _ e => s p _ e
theorem TT.but {a c : Addr} {H H' : Hp} (hF : FeedOk H a c) (b : But a H H') : TT H H' := fun p xs e => by
  obtain ⟨ns, k, big, mark, ha, _⟩ := hF
  exact b p _ (ne_of e ha (by intro z; cases z)) e
theorem TT.upd {H : Hp} {D : Addr} {ys zs : List V} (hD : H D = some (.lst ys)) : TT H (L2.upd H D (.lst zs)) := fun p xs e => by
  rw [upd_ne (ne_of e hD (by intro z; cases z))]
  exact e
theorem TT.trans {H H1 H2 : Hp} (h : TT H H1) (k : TT H1 H2) : TT H H2 := fun p xs e => k p xs (h p xs e)
mutual
theorem Dt.tups {z z' : Addr} {H H' : Hp} (s : TT H H') : ∀ (d : PyData) (v : V), noL d = true → Dt z H v d → Dt z' H' v d
  | .none, _, _, h => by cases h; exact .non
  | .bool _, _, _, h => by cases h; exact .bl _
  | .int _, _, _, h => by
    cases h with
    | int _ hb => exact .int _ hb
  | .str _, _, _, h => by
    cases h with
    | str _ hx => exact .str _ hx
  | .list ds, _, n, h => by
    unfold noL at n
    cases n
  | .tuple ds, _, n, h => by
    unfold noL at n
    cases h with
    | tup h1 h2 => exact .tup (s _ _ h1) (DtAll.tups s ds _ n h2)
  | .dict _, _, n, h => by cases h
theorem DtAll.tups {z z' : Addr} {H H' : Hp} (s : TT H H') : ∀ (ds : List PyData) (vs : List V), noLs ds = true → DtAll z H vs ds → DtAll z' H' vs ds
  | [], _, _, h => by cases h; exact .nil
  | d :: ds, _, n, h => by
    unfold noLs at n
    rw [Bool.and_eq_true] at n
    cases h with
    | cons h1 h2 => exact .cons (Dt.tups s d _ n.1 h1) (DtAll.tups s ds _ n.2 h2)
end
theorem DtAll.snoc {z : Addr} {H : Hp} : ∀ {vs : List V} {ds : List PyData} {v : V} {d : PyData}, DtAll z H vs ds → Dt z H v d → DtAll z H (vs ++ [v]) (ds ++ [d])
  | _, _, _, _, .nil, k => .cons k .nil
  | _, _, _, _, .cons h r, k => .cons h (DtAll.snoc r k)
theorem ratD_inv {d : PyData} (h : ratD d = true) : ∃ t u, d = .tuple [.int t, .int u] := by
  unfold ratD at h
  split at h
  · exact ⟨_, _, rfl⟩
  · cases h
theorem DtAll.at {z : Addr} {H : Hp} : ∀ {vs : List V} {ds : List PyData} (i : Nat) {x : V}, DtAll z H vs ds → vs[i]? = some x → ∃ d, ds[i]? = some d ∧ Dt z H x d
  | _, _, 0, _, .cons h _, e => ⟨_, rfl, by cases e; exact h⟩
  | _, _, i + 1, _, .cons _ h, e => DtAll.at i h e
def smallR : PyData → Bool
  | .tuple [.int t, .int u] => decide (t.natAbs ≤ 5 ∧ u.natAbs ≤ 3)
  | _ => false
def okR (r : PyData) : Prop := ratD r = true ∧ nonz r = true ∧ smallR r = true
theorem okR.noL {r : PyData} (h : okR r) : noL r = true := by
  obtain ⟨t, u, rfl⟩ := ratD_inv h.1
  rfl
abbrev trm1 (t : Str × PyData) : PyData := .tuple [.str t.1, t.2]
theorem noLs_trms : ∀ {ts : List (Str × PyData)}, (∀ t ∈ ts, okR t.2) → noLs (ts.map trm1) = true
  | [], _ => rfl
  | t :: ts, h => by
    have h1 := (h t List.mem_cons_self).noL
    have h2 := noLs_trms fun u hu => h u (List.mem_cons_of_mem _ hu)
    show (((true && (noL t.2 && true)) && noLs (ts.map trm1)) = true)
    rw [h1, h2]
    rfl
/-- terms: names and rates -/
abbrev trmD (ts : List (Str × PyData)) : PyData := .tuple (ts.map fun t => .tuple [.str t.1, t.2])
theorem tie_inv {z : Addr} {H : Hp} {v : V} {dd : List PyData} {b : PyData} (hv : Dt z H v (.tuple [.tuple dd, b])) : ∃ p t y xs, v = .ref p ∧ H p = some (.tup [.ref t, y]) ∧ H t = some (.tup xs) ∧ DtAll z H xs dd ∧ Dt z H y b := by
  match v, hv with
  | _, .tup hp (.cons (.tup ht hts) (.cons hb .nil)) => exact ⟨_, _, _, _, rfl, hp, ht, hts, hb⟩
theorem trm_inv {z : Addr} {H : Hp} {xs : List V} {n : Str} {r : PyData} {ds : List PyData} (h : DtAll z H xs (.tuple [.str n, r] :: ds)) : ∃ e rv xs', xs = .ref e :: xs' ∧ H e = some (.tup [.str n, rv]) ∧ Dt z H rv r := by
  match xs, h with
  | _, .cons (.tup he (.cons (.str _ _) (.cons hr .nil))) _ => exact ⟨_, _, _, rfl, he, hr⟩
/-! ### names in order -/
theorem S_of (x : Str) : SX.S x.cps.toList = x := by
  cases x
  rfl
theorem lt_tri : ∀ (x y : List Nat), ltCps y x = false → x ≠ y → ltCps x y = true
  | [], [], _, h => absurd rfl h
  | [], _ :: _, _, _ => rfl
  | _ :: _, [], h, _ => by cases h
  | a :: r, b :: t, h, n => by
    unfold ltCps at h ⊢
    rw [Bool.or_eq_false_iff, decide_eq_false_iff_not, Bool.and_eq_false_iff] at h
    rw [Bool.or_eq_true, decide_eq_true_eq, Bool.and_eq_true, beq_iff_eq]
    by_cases e : a = b
    · subst e
      refine .inr ⟨rfl, lt_tri r t ?_ fun z => n (by rw [z])⟩
      rcases h.2 with h | h
      · simp at h
      · exact h
    · exact .inl (by omega)
theorem sorted_two {x y : Str} (h : sortedS [x, y] = true) (n : x ≠ y) : decide (x.cps.toList < y.cps.toList) = true := by
  have h : (!ltCps y.cps.toList x.cps.toList && true) = true := h
  rw [Bool.and_true, Bool.not_eq_true'] at h
  rw [lt_meets]
  refine lt_tri _ _ h fun z => n ?_
  rw [← S_of x, ← S_of y, z]
theorem S_list (a : List Nat) : (SX.S a).cps.toList = a := by simp [SX.S]
/-! ### what is no tie -/
def BadL : List PyData → Prop
  | [] => True
  | d :: ds => tieD d = false ∧ BadL ds
theorem BadL.mem : ∀ {ds : List PyData} {d : PyData}, BadL ds → d ∈ ds → tieD d = false
  | _ :: _, _, h, e => by
    rcases List.mem_cons.mp e with rfl | e
    · exact h.1
    · exact BadL.mem h.2 e
def BadAll (z : Addr) (H : Hp) (vs : List V) : Prop := ∀ v ∈ vs, ∃ d, Dt z H v d ∧ tieD d = false
theorem badAll {z : Addr} {H : Hp} {vs : List V} {ds : List PyData} (all : DtAll z H vs ds) (h : BadL ds) : BadAll z H vs := fun v hv => by
  obtain ⟨d, hd, k⟩ := all.mem hv
  exact ⟨d, k, h.mem hd⟩
theorem BadAll.same {z : Addr} {H H' : Hp} {vs : List V} (h : BadAll z H vs) (s : Same H H') : BadAll z H' vs := fun v hv => by
  obtain ⟨d, k, e⟩ := h v hv
  exact ⟨d, k.same s, e⟩
theorem BadAll.app {z : Addr} {H : Hp} {vs us : List V} (h : BadAll z H vs) (k : BadAll z H us) : BadAll z H (vs ++ us) := fun v hv => by
  rcases List.mem_append.mp hv with e | e
  · exact h v e
  · exact k v e
theorem bad_rat {t b : PyData} (h : ratD b = false) : tieD (.tuple [t, b]) = false := by
  show (termsD t && ratD b) = false
  rw [h, Bool.and_false]
theorem bad_one {s b : PyData} (h : termD s = false) : tieD (.tuple [.tuple [s], b]) = false := by
  show (termD s && ratD b) = false
  rw [h]
  rfl
theorem bad_name {n r b : PyData} (h : nameD n = false) : tieD (.tuple [.tuple [.tuple [n, r]], b]) = false := bad_one (by
  show (nameD n && ratD r && nonz r) = false
  rw [h]
  rfl)
theorem bad_rate {n r b : PyData} (h : (ratD r && nonz r) = false) : tieD (.tuple [.tuple [.tuple [n, r]], b]) = false := bad_one (by
  show (nameD n && ratD r && nonz r) = false
  rw [Bool.and_assoc, h, Bool.and_false])
theorem bad_order {x y : Str} {r s b : PyData} (h : decide (x.cps.toList < y.cps.toList) = false) : tieD (.tuple [.tuple [.tuple [.str x, r], .tuple [.str y, s]], b]) = false := by
  show ((_ && _ && decide (x.cps.toList < y.cps.toList)) && _) = false
  rw [h, Bool.and_false]
  rfl
theorem bad_terms {ts : List (Str × PyData)} (h : ts.length = 1 ∨ ts.length = 2) : tieD (trmD ts) = false := by
  match ts, h with
  | [_], _ => rfl
  | [_, _], _ => rfl
  | [], h => simp at h
  | _ :: _ :: _ :: _, h => simp at h
theorem ltCps_self : ∀ x : List Nat, ltCps x x = false
  | [] => rfl
  | a :: r => by
    unfold ltCps
    rw [ltCps_self r, decide_eq_false (Nat.lt_irrefl a), Bool.and_false]
    rfl
theorem quotes (x : List Nat) : nameB (x ++ [39, 39]) = false := by
  have e : cutQ (x ++ [39, 39]) = x ++ [39] := by
    unfold cutQ
    have e1 : x ++ [39, 39] = (x ++ [39]) ++ [39] := by simp
    rw [e1, List.getLast?_append, List.getLast?_singleton, Option.some_or, if_pos rfl, List.dropLast_concat]
  unfold nameB letB
  rw [e, List.all_append]
  simp [lowc]
theorem catNew {z : Addr} {H : Hp} {p : Addr} {us vs : List V} {ds : List PyData} (n : H p = none) (all : DtAll z H vs ds) (hb : BadAll z H us) (h : BadL ds) : Same H (L2.upd H p (.lst (us ++ vs))) ∧ BadAll z (L2.upd H p (.lst (us ++ vs))) (us ++ vs) :=
  ⟨same_upd n, (hb.app (badAll all h)).same (same_upd n)⟩
theorem small_line {n : Nat} (h : n ≤ 1000) : n ≤ sizeLine := Nat.le_trans h (Nat.le_of_lt (small1000 (Nat.le_refl _)))
theorem quote : (Str.ofString "'" : Str) = SX.S [39] := by decide +kernel
abbrev vS (a : List Nat) : V := .str (SX.S a)
section
variable {P : Program} {w : World} {K : PySem.W.Frag} {mg : Str → Option Value} {base : Heap} {fa : Nat → Addr} {fd : Nat → FuncData}
abbrev Bd (t : Int) : Prop := t.natAbs.log2 < 4096
theorem bits_bd {v : Nat} (h : v.log2 < 4096) : ¬ ((4096 : Int) < ((Builtin.Int.intBits (v : Int) : Nat) : Int)) := by
  unfold Builtin.Int.intBits
  rw [Int.natAbs_natCast]
  split <;> omega
def spDiv : Sp := fun vs H Q _ => ∃ x y : Int, vs = [.int x, .int y] ∧ (Bd x ∨ Bd y) ∧ Q (.int (Int.gcd x y : Nat)) H
theorem ok_p_common_divisor (T : Txt K mg fa fd) : FnOk P w K mg base CX0 1 (fa 9) (fd 9) ["one", "other"] spDiv := by
  refine T.F_p_common_divisor.ok sc_p_common_divisor (fun vs H Q E h => ?_) (fun cdv A outer s H vs Q E hr h => ?_)
  · obtain ⟨x, y, rfl, _⟩ := h
    rfl
  · obtain ⟨x, y, rfl, hb, q⟩ := h
    refine ⟨_, (pss_cons (ps_set (i := 0) sc_p_common_divisor.nd rfl (.inl rfl) (pe_callB call_abs (by rfl) T.m_abs PyProof.Rows.boot_abs (pa_cons (pv 0) pa_nil)))
      (pss_cons (ps_set (i := 1) sc_p_common_divisor.nd rfl (.inl rfl) (pe_callB call_abs (by rfl) T.m_abs PyProof.Rows.boot_abs (pa_cons (pv 1) pa_nil)))
      (C8.pss_cut (ps_if (pt_cmpR op_lt (pv 0) (pv 1) (nomark _)) (pss_one (ps_par (i := 0) (j := 1) (by rfl) sc_p_common_divisor.nd rfl rfl (by decide) rfl rfl (pa_cons (pv 1) (pa_cons (pv 0) pa_nil)) (by rfl))) pss_nil)
      (pss_cons (ps_while PassesOwn.never (pt_cmpR op_gt (pe_bits (pv 1)) (C8.pe_gc (by rfl) T.c_LONG) (nomark _)) (pss_one ps_never))
      (pss_cons (ps_while PassesOwn.never (pt_cmpR op_gt (pv 1) pe_int (nomark _)) (pss_one (ps_par (i := 0) (j := 1) (by rfl) sc_p_common_divisor.nd rfl rfl (by decide) rfl rfl (pa_cons (pv 1) (pa_cons (pe_op op_mod (pv 0) (pv 1)) pa_nil)) (by rfl))))
      (pss_one (ps_ret (pv 0)))))))), ?_⟩
    refine ⟨_, rfl, _, rfl, _, rfl, _, rfl, ?_⟩
    have ab : ∀ z : Int, (if z < 0 then -z else z) = (z.natAbs : Int) := fun z => by split <;> omega
    rw [ab, ab]
    refine ⟨fun σ H1 => H1 = H ∧ ∃ u v : Nat, σ = [some (.int (u : Int)), some (.int (v : Int))] ∧ v.log2 < 4096 ∧ Nat.gcd u v = Int.gcd x y, ?_, fun σ H1 hM => ?_⟩
    · refine ⟨_, rfl, _, rfl, _, _, rfl, rfl, _, rfl, ite2 (fun e => ?_) (fun e => ?_)⟩
      · have lt : (x.natAbs : Int) < (y.natAbs : Int) := of_decide_eq_true e
        refine ⟨_, rfl, _, rfl, _, _, rfl, rfl, y.natAbs, x.natAbs, rfl, ?_, Nat.gcd_comm _ _⟩
        rcases hb with hb | hb
        · exact hb
        · exact log2_mono (by omega) hb
      · have ge : ¬ (x.natAbs : Int) < (y.natAbs : Int) := fun z => e (decide_eq_true z)
        refine ⟨rfl, x.natAbs, y.natAbs, rfl, ?_, rfl⟩
        rcases hb with hb | hb
        · exact log2_mono (by omega) hb
        · exact hb
    obtain ⟨rfl, u0, v0, rfl, hv0, hg0⟩ := hM
    refine ⟨fun m σ H2 => σ = [some (.int (u0 : Int)), some (.int (v0 : Int))] ∧ H2 = H1, ⟨0, rfl, rfl⟩, fun m σ H2 hW => ?_⟩
    obtain ⟨rfl, rfl⟩ := hW
    refine ⟨_, rfl, _, rfl, _, _, rfl, rfl, _, rfl, ite2 (fun e => absurd (of_decide_eq_true e) (bits_bd hv0)) (fun _ => ?_)⟩
    refine ⟨fun m σ H1 => ∃ u v : Nat, m = v ∧ σ = [some (.int (u : Int)), some (.int (v : Int))] ∧ H1 = H2 ∧ Nat.gcd u v = Int.gcd x y, ⟨_, u0, v0, rfl, rfl, rfl, hg0⟩, fun m σ H1 hW => ?_⟩
    obtain ⟨u, v, rfl, rfl, rfl, hg⟩ := hW
    refine ⟨_, rfl, _, _, rfl, rfl, _, rfl, ite2 (fun e => ?_) (fun e => ?_)⟩
    · have hv : 0 < (m : Int) := of_decide_eq_true e
      refine ⟨fun σ' H' => ∃ m', m' < m ∧ ∃ u v : Nat, m' = v ∧ σ' = [some (.int (u : Int)), some (.int (v : Int))] ∧ H' = H1 ∧ Nat.gcd u v = Int.gcd x y, fun σ' H' h => h, ?_⟩
      refine ⟨_, rfl, _, rfl, _, rfl, _, _, rfl, rfl, hv, ?_⟩
      refine ⟨_, _, rfl, u % m, Nat.mod_lt _ (by omega), m, u % m, rfl, rfl, rfl, ?_⟩
      rw [← hg, Nat.gcd_comm m, ← Nat.gcd_rec, Nat.gcd_comm]
    · have hv : m = 0 := by
        have : ¬ 0 < (m : Int) := fun z => e (decide_eq_true z)
        omega
      subst hv
      refine ⟨_, rfl, ?_⟩
      rw [Nat.gcd_zero_right] at hg
      rw [hg]
      exact q
end
/-! ### texts of fractions: the plain mathematics -/
abbrev dig (c : Nat) : Bool := decide (48 ≤ c) && decide (c ≤ 57)
def isD (a : List Nat) : Bool := !a.isEmpty && a.all dig
def bodyM : List Nat → Bool
  | 45 :: _ => true
  | _ => false
def bodyL : List Nat → List Nat
  | 45 :: r => r
  | a => a
def cutL (a : List Nat) : List Nat × Bool × List Nat := match TL.par [47] [] a with
  | some (p, q) => (p, true, q)
  | none => (a, false, [])
def txtL (n d : Int) : List Nat := (if n < 0 then [45] else []) ++ (TL.numL n.natAbs ++ (if d = 1 then [] else 47 :: TL.numL d.natAbs))
def progN (t : List Nat) : Int := if bodyM t then -((NumText.digitsVal (cutL (bodyL t)).1 : Nat) : Int) else (NumText.digitsVal (cutL (bodyL t)).1 : Nat)
def progD (t : List Nat) : Int := if (cutL (bodyL t)).2.1 then ((NumText.digitsVal (cutL (bodyL t)).2.2 : Nat) : Int) else 1
def progR (t : List Nat) : Option (Int × Int) :=
  if !isD (cutL (bodyL t)).1 || ((cutL (bodyL t)).2.1 && !isD (cutL (bodyL t)).2.2) then none
  else if progD t = 0 then none
  else if txtL (lowT (progN t) (progD t)) (lowD (progN t) (progD t)) = t then some (lowT (progN t) (progD t), lowD (progN t) (progD t)) else none
def goodW (p : List Nat) : Bool := isD p && !(decide (1 < p.length) && p.head? == some 48)
def lawR (t : List Nat) : Option (Int × Int) :=
  if !goodW (cutL (bodyL t)).1 || ((cutL (bodyL t)).2.1 && !goodW (cutL (bodyL t)).2.2) then none
  else if ((cutL (bodyL t)).2.1 = true ∧ progD t < 2 ∨ Int.gcd (progN t) (progD t) ≠ 1) ∨ bodyM t = true ∧ progN t = 0 then none
  else some (progN t, progD t)
theorem gcd_low {u v : Int} (h : v ≠ 0) : Int.gcd (lowT u v) (lowD u v) = 1 := by
  have e1 := lowT_mul (u := u) h
  have e2 := lowD_mul (u := u) h
  have g0 := gcd_pos (u := u) h
  have e : Int.gcd u v = (lowG u v).natAbs * Int.gcd (lowT u v) (lowD u v) := by
    rw [← Int.gcd_mul_left, ← e1, ← e2]
  have hg : (lowG u v).natAbs = Int.gcd u v := by
    unfold lowG
    split <;> omega
  rw [hg] at e
  generalize Int.gcd (lowT u v) (lowD u v) = m at e
  generalize Int.gcd u v = g at e g0
  have : g * 1 = g * m := by rw [Nat.mul_one]; exact e
  exact (Nat.eq_of_mul_eq_mul_left g0 this).symm
theorem low_one {u v : Int} (h : 0 < v) (g : Int.gcd u v = 1) : lowT u v = u ∧ lowD u v = v := by
  have hG : lowG u v = 1 := by
    unfold lowG
    rw [if_neg (by omega), g]
    rfl
  unfold lowT lowD
  rw [hG]
  exact ⟨Int.fdiv_one u, Int.fdiv_one v⟩
theorem all_dig {a : List Nat} : a.all dig = true ↔ NumText.AllDigits a := by
  rw [List.all_eq_true]
  constructor
  · intro h c hc
    have z := h c hc
    unfold dig at z
    rw [Bool.and_eq_true, decide_eq_true_eq, decide_eq_true_eq] at z
    exact z
  · intro h c hc
    have z := h c hc
    unfold dig
    rw [Bool.and_eq_true, decide_eq_true_eq, decide_eq_true_eq]
    exact z
theorem isD_num (n : Nat) : isD (TL.numL n) = true := by
  unfold isD
  rw [Bool.and_eq_true]
  refine ⟨?_, all_dig.mpr (TL.numL_digits n)⟩
  have h := TL.numL_ne n
  cases e : TL.numL n with
  | nil => exact absurd e h
  | cons c r => rfl
theorem isD_iff {a : List Nat} : isD a = true ↔ a ≠ [] ∧ NumText.AllDigits a := by
  unfold isD
  rw [Bool.and_eq_true, all_dig]
  cases a with
  | nil => simp
  | cons c r => simp
theorem nat_char {c : Nat} (h : 48 ≤ c ∧ c ≤ 57) : (Char.ofNat c).toNat = c := by
  have : ∀ c : Nat, c ≤ 57 → 48 ≤ c → (Char.ofNat c).toNat = c := by decide
  exact this c h.2 h.1
theorem num_good {p : List Nat} (h : goodW p = true) : TL.numL (NumText.digitsVal p) = p := by
  unfold goodW at h
  rw [Bool.and_eq_true, isD_iff] at h
  obtain ⟨⟨h1, h2⟩, h3⟩ := h
  have back : ∀ l : List Nat, NumText.AllDigits l → (l.map Char.ofNat).map Char.toNat = l := fun l hl => by
    rw [List.map_map]
    conv => rhs; rw [← List.map_id l]
    exact List.map_congr_left fun c hc => nat_char (hl c hc)
  unfold TL.numL
  rw [NumText.toDigits_all p h2]
  cases p with
  | nil => exact absurd rfl h1
  | cons c r =>
    by_cases e : c = 48
    · subst e
      cases r with
      | nil => rfl
      | cons d r =>
        simp at h3
    · rw [List.dropWhile_cons, if_neg (by rw [beq_iff_eq]; exact e)]
      exact back (c :: r) h2
theorem numL_zero : TL.numL 0 = [48] := TL.numL_lt (by decide)
theorem numL_head {n : Nat} (h : 0 < n) : ∀ c r, TL.numL n = c :: r → 49 ≤ c := by
  induction n using Nat.strongRecOn with
  | _ n ih =>
    intro c r e
    by_cases hn : n < 10
    · rw [TL.numL_lt hn] at e
      injection e with e1 e2
      omega
    · rw [TL.numL_step (by omega)] at e
      cases e2 : TL.numL (n / 10) with
      | nil => exact absurd e2 (TL.numL_ne _)
      | cons c' r' =>
        rw [e2, List.cons_append] at e
        injection e with e3 e4
        have := ih (n / 10) (by omega) (by omega) c' r' e2
        omega
theorem good_num (n : Nat) : goodW (TL.numL n) = true := by
  unfold goodW
  rw [Bool.and_eq_true]
  refine ⟨isD_num n, ?_⟩
  by_cases h : n = 0
  · subst h
    rw [numL_zero]
    rfl
  · cases e : TL.numL n with
    | nil => exact absurd e (TL.numL_ne n)
    | cons c r =>
      have := numL_head (Nat.pos_of_ne_zero h) c r e
      have : (List.head? (c :: r) == some 48) = false := by
        show (some c == some 48) = false
        rw [beq_eq_false_iff_ne]
        intro z
        injection z with z
        omega
      rw [this]
      simp
theorem body_at (t : List Nat) : t = (if bodyM t then [45] else []) ++ bodyL t := by
  unfold bodyM bodyL
  split <;> simp_all
theorem body_minus (b : List Nat) : bodyM (45 :: b) = true ∧ bodyL (45 :: b) = b := ⟨rfl, rfl⟩
theorem body_num (n : Nat) (r : List Nat) : bodyM (TL.numL n ++ r) = false ∧ bodyL (TL.numL n ++ r) = TL.numL n ++ r := by
  cases e : TL.numL n with
  | nil => exact absurd e (TL.numL_ne n)
  | cons c l =>
    have hc : c ≠ 45 := by
      intro z
      have := TL.numL_free (n := n) (s := 45) (.inl (by decide))
      rw [e, z] at this
      exact this List.mem_cons_self
    rw [List.cons_append]
    unfold bodyM bodyL
    constructor
    · split
      · rename_i h
        injection h with h1 h2
        exact absurd h1 hc
      · rfl
    · split
      · rename_i h
        injection h with h1 h2
        exact absurd h1 hc
      · rfl
theorem cut_at (a : List Nat) : a = (cutL a).1 ++ (if (cutL a).2.1 then 47 :: (cutL a).2.2 else []) := by
  by_cases h : 47 ∈ a
  · obtain ⟨p, q, e, hp⟩ := List.eq_append_cons_of_mem h
    subst e
    have := SX.par_head (sep := []) q hp
    unfold cutL
    rw [show p ++ 47 :: q = p ++ (47 :: [] ++ q) from rfl, this]
    rfl
  · have := SX.par_head_none (c := 47) (sep := []) h
    unfold cutL
    rw [this]
    simp
theorem cut_num (n : Nat) : cutL (TL.numL n) = (TL.numL n, false, []) := by
  have := SX.par_head_none (c := 47) (sep := []) (p := TL.numL n) (TL.numL_free (.inl (by decide)))
  unfold cutL
  rw [this]
theorem cut_num2 (n : Nat) (q : List Nat) : cutL (TL.numL n ++ 47 :: q) = (TL.numL n, true, q) := by
  have := SX.par_head (c := 47) (sep := []) (p := TL.numL n) q (TL.numL_free (.inl (by decide)))
  unfold cutL
  rw [show TL.numL n ++ 47 :: q = TL.numL n ++ (47 :: [] ++ q) from rfl, this]
theorem parse_txt (n d : Int) (hd : 0 < d) : bodyM (txtL n d) = decide (n < 0) ∧ (cutL (bodyL (txtL n d))).1 = TL.numL n.natAbs ∧ (cutL (bodyL (txtL n d))).2.1 = decide (d ≠ 1) ∧ (d ≠ 1 → (cutL (bodyL (txtL n d))).2.2 = TL.numL d.natAbs) := by
  have hb : bodyM (txtL n d) = decide (n < 0) ∧ bodyL (txtL n d) = TL.numL n.natAbs ++ (if d = 1 then [] else 47 :: TL.numL d.natAbs) := by
    unfold txtL
    by_cases h : n < 0
    · rw [if_pos h, decide_eq_true h]
      exact body_minus _
    · rw [if_neg h, decide_eq_false h, List.nil_append]
      exact body_num _ _
  rw [hb.2]
  refine ⟨hb.1, ?_⟩
  by_cases h : d = 1
  · rw [if_pos h, List.append_nil, cut_num]
    exact ⟨rfl, (decide_eq_false (fun z => z h)).symm, fun z => absurd h z⟩
  · rw [if_neg h, cut_num2]
    exact ⟨rfl, (decide_eq_true h).symm, fun _ => rfl⟩
/-- the text's parts are those of the fraction -/
theorem parse_val (n d : Int) (hd : 0 < d) : progN (txtL n d) = n ∧ progD (txtL n d) = d := by
  obtain ⟨h1, h2, h3, h4⟩ := parse_txt n d hd
  unfold progN progD
  rw [h1, h2, h3, TL.numL_val]
  constructor
  · by_cases h : n < 0
    · rw [decide_eq_true h, if_pos rfl]
      omega
    · rw [decide_eq_false h, if_neg (by decide)]
      omega
  · by_cases h : d = 1
    · rw [decide_eq_false (fun z => z h), if_neg (by decide), h]
    · rw [decide_eq_true h, if_pos rfl, h4 h, TL.numL_val]
      omega
theorem law_txt (n d : Int) (hd : 0 < d) (g : Int.gcd n d = 1) : lawR (txtL n d) = some (n, d) := by
  obtain ⟨h1, h2, h3, h4⟩ := parse_txt n d hd
  obtain ⟨e1, e2⟩ := parse_val n d hd
  unfold lawR
  rw [e1, e2, h1, h2, h3, good_num]
  have c1 : ((!true) || (decide (d ≠ 1) && !goodW (cutL (bodyL (txtL n d))).2.2)) = false := by
    by_cases h : d = 1
    · rw [decide_eq_false (fun z => z h)]
      rfl
    · rw [h4 h, good_num]
      simp
  rw [c1, if_neg (by decide), if_neg ?_]
  rintro ((⟨z1, z2⟩ | z) | ⟨z1, z2⟩)
  · have := of_decide_eq_true z1
    omega
  · exact z g
  · have := of_decide_eq_true z1
    omega
theorem prog_txt (n d : Int) (hd : 0 < d) (g : Int.gcd n d = 1) : progR (txtL n d) = some (n, d) := by
  obtain ⟨h1, h2, h3, h4⟩ := parse_txt n d hd
  obtain ⟨e1, e2⟩ := parse_val n d hd
  obtain ⟨l1, l2⟩ := low_one hd g
  unfold progR
  rw [e1, e2, h2, h3, isD_num, l1, l2]
  have c1 : ((!true) || (decide (d ≠ 1) && !isD (cutL (bodyL (txtL n d))).2.2)) = false := by
    by_cases h : d = 1
    · rw [decide_eq_false (fun z => z h)]
      rfl
    · rw [h4 h, isD_num]
      simp
  rw [c1, if_neg (by decide), if_neg (by omega), if_pos rfl]
theorem prog_some {t : List Nat} {f : Int × Int} (h : progR t = some f) : t = txtL f.1 f.2 ∧ 0 < f.2 ∧ Int.gcd f.1 f.2 = 1 := by
  unfold progR at h
  split at h
  · cases h
  · split at h
    · cases h
    · rename_i h0
      split at h
      · rename_i e
        cases h
        exact ⟨e.symm, lowD_pos h0, gcd_low h0⟩
      · cases h
theorem law_some {t : List Nat} {f : Int × Int} (h : lawR t = some f) : t = txtL f.1 f.2 ∧ 0 < f.2 ∧ Int.gcd f.1 f.2 = 1 := by
  unfold lawR at h
  split at h
  · cases h
  · rename_i h1
    split at h
    · cases h
    · rename_i h2
      cases h
      have k1 : goodW (cutL (bodyL t)).1 = true := by
        cases e : goodW (cutL (bodyL t)).1
        · rw [e] at h1
          exact absurd rfl h1
        · rfl
      have k2 : (cutL (bodyL t)).2.1 = true → goodW (cutL (bodyL t)).2.2 = true := fun z => by
        cases e : goodW (cutL (bodyL t)).2.2
        · rw [e, z, k1] at h1
          exact absurd rfl h1
        · rfl
      have g1 : Int.gcd (progN t) (progD t) = 1 := by
        by_cases z : Int.gcd (progN t) (progD t) = 1
        · exact z
        · exact absurd (.inl (.inr z)) h2
      have d2 : (cutL (bodyL t)).2.1 = true → 2 ≤ progD t := fun z => by
        have : ¬ progD t < 2 := fun y => h2 (.inl (.inl ⟨z, y⟩))
        omega
      have m2 : bodyM t = true → progN t ≠ 0 := fun z y => h2 (.inr ⟨z, y⟩)
      have hd : 0 < progD t := by
        cases e : (cutL (bodyL t)).2.1
        · unfold progD
          rw [e, if_neg (by decide)]
          omega
        · have := d2 e
          omega
      refine ⟨?_, hd, g1⟩
      have p1 := num_good k1
      show t = txtL (progN t) (progD t)
      have sg : (if progN t < 0 then [45] else []) = (if bodyM t then [45] else ([] : List Nat)) := by
        cases e : bodyM t
        · have : ¬ progN t < 0 := by
            unfold progN
            rw [e]
            simp
          rw [if_neg this]
          rfl
        · have y := m2 e
          have : progN t < 0 := by
            unfold progN at y ⊢
            rw [e, if_pos rfl] at y ⊢
            omega
          rw [if_pos this]
          rfl
      have an : (progN t).natAbs = NumText.digitsVal (cutL (bodyL t)).1 := by
        unfold progN
        split <;> omega
      have sd : (if progD t = 1 then [] else 47 :: TL.numL (progD t).natAbs) = (if (cutL (bodyL t)).2.1 then 47 :: (cutL (bodyL t)).2.2 else []) := by
        cases e : (cutL (bodyL t)).2.1
        · have : progD t = 1 := by
            unfold progD
            rw [e]
            rfl
          rw [if_pos this]
          rfl
        · have y := d2 e
          have z : (progD t).natAbs = NumText.digitsVal (cutL (bodyL t)).2.2 := by
            unfold progD
            rw [e, if_pos rfl]
            omega
          rw [if_neg (by omega), z, num_good (k2 e)]
          rfl
      unfold txtL
      rw [sg, an, p1, sd, ← cut_at, ← body_at]
theorem prog_law (t : List Nat) : progR t = lawR t := by
  cases h : progR t with
  | some f =>
    obtain ⟨e, hd, g⟩ := prog_some h
    rw [e, law_txt f.1 f.2 hd g]
  | none =>
    cases h2 : lawR t with
    | none => rfl
    | some f =>
      obtain ⟨e, hd, g⟩ := law_some h2
      rw [e, prog_txt f.1 f.2 hd g] at h
      cases h
/-! ### the mathematics of reduced ties -/
theorem lowT_self {u v : Int} (hv : v ≠ 0) : lowT u v * v = u * lowD u v := by
  have e1 := lowT_mul (u := u) hv
  have e2 := lowD_mul (u := u) hv
  generalize lowG u v = g at e1 e2
  generalize lowT u v = a at e1 ⊢
  generalize lowD u v = b at e2 ⊢
  subst e1 e2
  rw [← Int.mul_assoc, Int.mul_comm a g]
theorem lowG_scale (u v m : Int) (hm : m ≠ 0) : v ≠ 0 → lowG (u * m) (v * m) = lowG u v * m := fun hv => by
  have g : (Int.gcd (u * m) (v * m) : Int) = (Int.gcd u v : Int) * (m.natAbs : Int) := by
    rw [Int.gcd_mul_right]
    exact Int.natCast_mul _ _
  unfold lowG
  rw [g]
  rcases Int.lt_trichotomy m 0 with h | h | h
  · have em : (m.natAbs : Int) = -m := by omega
    rw [em, Int.mul_neg, Int.neg_neg]
    by_cases h2 : v < 0
    · have := Int.mul_pos_of_neg_of_neg h2 h
      rw [if_neg (by omega), if_pos h2, Int.neg_mul]
    · have := Int.mul_neg_of_pos_of_neg (show 0 < v by omega) h
      rw [if_pos this, if_neg h2]
  · exact absurd h hm
  · have em : (m.natAbs : Int) = m := by omega
    rw [em]
    by_cases h2 : v < 0
    · have := Int.mul_neg_of_neg_of_pos h2 h
      rw [if_pos this, if_pos h2, Int.neg_mul]
    · have := Int.mul_pos (show 0 < v by omega) h
      rw [if_neg (by omega), if_neg h2]
theorem fdiv_scale {g u m : Int} (hg : g ≠ 0) (hm : m ≠ 0) (hd : g ∣ u) : (u * m).fdiv (g * m) = u.fdiv g := by
  obtain ⟨t, rfl⟩ := hd
  have hgm : g * m ≠ 0 := Int.mul_ne_zero hg hm
  rw [Int.mul_fdiv_cancel_left _ hg, show g * t * m = g * m * t by rw [Int.mul_assoc, Int.mul_comm t m, Int.mul_assoc], Int.mul_fdiv_cancel_left _ hgm]
theorem lowT_scale {u v m : Int} (hm : m ≠ 0) (hv : v ≠ 0) : lowT (u * m) (v * m) = lowT u v := by
  unfold lowT
  rw [lowG_scale u v m hm hv]
  exact fdiv_scale (lowG_ne hv) hm (lowG_dvd_left u v)
theorem lowD_scale {u v m : Int} (hm : m ≠ 0) (hv : v ≠ 0) : lowD (u * m) (v * m) = lowD u v := by
  unfold lowD
  rw [lowG_scale u v m hm hv]
  exact fdiv_scale (lowG_ne hv) hm (lowG_dvd_right u v)
theorem lowG_one (u : Int) : lowG u 1 = 1 := by
  unfold lowG
  rw [if_neg (by decide), Int.gcd_one_right]
  rfl
theorem lowT_one (u : Int) : lowT u 1 = u := by
  unfold lowT
  rw [lowG_one, Int.fdiv_one]
theorem lowD_one (u : Int) : lowD u 1 = 1 := by
  unfold lowD
  rw [lowG_one]
  rfl
abbrev FR := Int × Int
def lowF (u v : Int) : FR := (lowT u v, lowD u v)
theorem low_cross {u v u' v' : Int} (hv : v ≠ 0) (hv' : v' ≠ 0) (h : u * v' = u' * v) : lowF u v = lowF u' v' := by
  unfold lowF
  rw [← lowT_scale hv' hv, ← lowD_scale hv' hv, h, ← lowT_scale (u := u') hv hv', ← lowD_scale (u := u') hv hv', Int.mul_comm v v']
/-- the least common denominator, as it is worked out -/
def lcmF (u : Int) : List FR → Int
  | [] => u
  | f :: r => lcmF ((u * f.2).fdiv (Int.gcd u f.2 : Nat)) r
def gcdF (L : Int) (g : Int) : List FR → Int
  | [] => g
  | f :: r => gcdF L (Int.gcd g (L.fdiv f.2 * f.1) : Nat) r
def scl (rs : List FR) : FR := lowF (lcmF 1 rs) (gcdF (lcmF 1 rs) 0 rs)
def redF (s f : FR) : FR := lowF (f.1 * s.1) (f.2 * s.2)
def gl (l : List Int) : Nat := l.foldr (fun m g => Nat.gcd m.natAbs g) 0
theorem gl_mul (A : Int) : ∀ l : List Int, gl (l.map (· * A)) = gl l * A.natAbs
  | [] => (Nat.zero_mul _).symm
  | m :: l => by
    show Nat.gcd (m * A).natAbs (gl (l.map (· * A))) = Nat.gcd m.natAbs (gl l) * A.natAbs
    rw [gl_mul A l, Int.natAbs_mul, Nat.gcd_mul_right]
theorem lcm_step {u d : Int} (hu : 0 < u) (hd : 0 < d) : 0 < (u * d).fdiv (Int.gcd u d : Nat) ∧ u ∣ (u * d).fdiv (Int.gcd u d : Nat) ∧ d ∣ (u * d).fdiv (Int.gcd u d : Nat) := by
  have gp : 0 < Int.gcd u d := gcd_pos (by omega)
  obtain ⟨a, ha⟩ := Int.gcd_dvd_left u d
  obtain ⟨b, hb⟩ := Int.gcd_dvd_right u d
  have g0 : ((Int.gcd u d : Nat) : Int) ≠ 0 := by omega
  have e : (u * d).fdiv (Int.gcd u d : Nat) = u * b := by
    rw [show u * d = ((Int.gcd u d : Nat) : Int) * (u * b) by
      rw [← Int.mul_assoc, Int.mul_comm _ u, Int.mul_assoc, ← hb]]
    exact Int.mul_fdiv_cancel_left _ g0
  have bp : 0 < b := by
    rcases Int.lt_trichotomy b 0 with h | h | h
    · have := Int.mul_neg_of_pos_of_neg (show (0 : Int) < (Int.gcd u d : Nat) by omega) h
      omega
    · rw [h, Int.mul_zero] at hb
      omega
    · exact h
  rw [e]
  refine ⟨Int.mul_pos hu bp, ⟨b, rfl⟩, ⟨a, ?_⟩⟩
  have : ((Int.gcd u d : Nat) : Int) * (u * b) = ((Int.gcd u d : Nat) : Int) * (d * a) := by
    calc ((Int.gcd u d : Nat) : Int) * (u * b) = u * (((Int.gcd u d : Nat) : Int) * b) := by rw [← Int.mul_assoc, Int.mul_comm _ u, Int.mul_assoc]
      _ = u * d := by rw [← hb]
      _ = d * u := Int.mul_comm ..
      _ = d * (((Int.gcd u d : Nat) : Int) * a) := by rw [← ha]
      _ = _ := by rw [← Int.mul_assoc, Int.mul_comm d, Int.mul_assoc]
  exact Int.eq_of_mul_eq_mul_left g0 this
theorem lcmF_ok : ∀ (rs : List FR) (u : Int), 0 < u → (∀ f ∈ rs, 0 < f.2) → 0 < lcmF u rs ∧ u ∣ lcmF u rs ∧ ∀ f ∈ rs, f.2 ∣ lcmF u rs
  | [], u, hu, _ => ⟨hu, ⟨1, (Int.mul_one u).symm⟩, fun _ h => nomatch h⟩
  | f :: r, u, hu, h => by
    have hf := h f List.mem_cons_self
    obtain ⟨h1, h2, h3⟩ := lcm_step hu hf
    obtain ⟨k1, k2, k3⟩ := lcmF_ok r _ h1 fun g hg => h g (List.mem_cons_of_mem _ hg)
    refine ⟨k1, Int.dvd_trans h2 k2, fun g hg => ?_⟩
    rcases List.mem_cons.mp hg with rfl | hg
    · exact Int.dvd_trans h3 k2
    · exact k3 g hg
theorem gcdF_gl (L : Int) : ∀ (rs : List FR) (g : Nat), gcdF L (g : Int) rs = (Nat.gcd g (gl (rs.map fun f => L.fdiv f.2 * f.1)) : Nat)
  | [], g => by
    show (g : Int) = (Nat.gcd g 0 : Nat)
    rw [Nat.gcd_zero_right]
  | f :: r, g => by
    show gcdF L (Int.gcd g (L.fdiv f.2 * f.1) : Nat) r = _
    rw [gcdF_gl L r]
    show ((Nat.gcd (Nat.gcd _ _) _ : Nat) : Int) = (Nat.gcd g (Nat.gcd _ _) : Nat)
    rw [Nat.gcd_assoc]
    rfl
theorem gl_dvd : ∀ (l : List Int) (m : Int), m ∈ l → (gl l : Int) ∣ m
  | a :: l, m, h => by
    have e1 : ((Nat.gcd a.natAbs (gl l) : Nat) : Int) ∣ a := Int.ofNat_dvd_left.mpr (Nat.gcd_dvd_left _ _)
    rcases List.mem_cons.mp h with rfl | h
    · exact e1
    · exact Int.dvd_trans (Int.natCast_dvd_natCast.mpr (Nat.gcd_dvd_right _ _)) (gl_dvd l m h)
/-- good rates -/
def RsOk (rs : List FR) : Prop := rs ≠ [] ∧ ∀ f ∈ rs, 0 < f.2 ∧ f.1 ≠ 0
theorem red_facts {rs : List FR} (h : RsOk rs) : ∃ L G : Int, 0 < L ∧ 0 < G ∧ lcmF 1 rs = L ∧ gcdF L 0 rs = G ∧ ∃ m : FR → Int, (∀ f ∈ rs, m f * G * f.2 = L * f.1) ∧ gl (rs.map m) = 1 := by
  obtain ⟨Lp, _, Ld⟩ := lcmF_ok rs 1 (by decide) fun f hf => (h.2 f hf).1
  have eG := gcdF_gl (lcmF 1 rs) rs 0
  rw [Nat.gcd_zero_left] at eG
  generalize lcmF 1 rs = L at Lp Ld eG ⊢
  have es : ∀ f ∈ rs, L.fdiv f.2 * f.1 * f.2 = L * f.1 ∧ L.fdiv f.2 * f.1 ≠ 0 := fun f hf => by
    obtain ⟨t, ht⟩ := Ld f hf
    have f0 : f.2 ≠ 0 := by have := (h.2 f hf).1; omega
    rw [ht, Int.mul_fdiv_cancel_left _ f0]
    refine ⟨by rw [Int.mul_comm f.2 t, Int.mul_right_comm], ?_⟩
    refine Int.mul_ne_zero (fun z => ?_) (h.2 f hf).2
    rw [z, Int.mul_zero] at ht
    omega
  have Gn : gl (rs.map fun f => L.fdiv f.2 * f.1) ≠ 0 := fun z => by
    obtain ⟨f, r, rfl⟩ : ∃ f r, rs = f :: r := by
      cases rs with
      | nil => exact absurd rfl h.1
      | cons f r => exact ⟨f, r, rfl⟩
    have := gl_dvd _ _ (List.mem_map_of_mem (f := fun f : FR => L.fdiv f.2 * f.1) (List.mem_cons_self (a := f) (l := r)))
    rw [z] at this
    exact (es f List.mem_cons_self).2 (Int.zero_dvd.mp this)
  refine ⟨L, gcdF L 0 rs, Lp, ?_, rfl, rfl, fun f => (L.fdiv f.2 * f.1).fdiv (gcdF L 0 rs), ?_, ?_⟩
  · rw [show gcdF L 0 rs = _ from eG]
    omega
  all_goals
    have eG : gcdF L 0 rs = _ := eG
    have dv : ∀ f ∈ rs, (L.fdiv f.2 * f.1).fdiv (gcdF L 0 rs) * gcdF L 0 rs = L.fdiv f.2 * f.1 := fun f hf => by
      have := gl_dvd _ _ (List.mem_map_of_mem (f := fun f : FR => L.fdiv f.2 * f.1) hf)
      rw [← eG] at this
      obtain ⟨t, ht⟩ := this
      rw [ht, Int.mul_fdiv_cancel_left _ (by rw [eG]; omega), Int.mul_comm]
  · intro f hf
    rw [dv f hf]
    exact (es f hf).1
  · have e2 := gl_mul (gcdF L 0 rs) (rs.map fun f => (L.fdiv f.2 * f.1).fdiv (gcdF L 0 rs))
    have cg : (rs.map fun f => (L.fdiv f.2 * f.1).fdiv (gcdF L 0 rs)).map (· * gcdF L 0 rs) = rs.map fun f => L.fdiv f.2 * f.1 := by
      rw [List.map_map]
      exact List.map_congr_left fun f hf => dv f hf
    rw [cg] at e2
    have e3 : (gcdF L 0 rs).natAbs = gl (rs.map fun f => L.fdiv f.2 * f.1) := by
      rw [eG]
      exact Int.natAbs_natCast _
    rw [e3] at e2
    have : 1 * gl (rs.map fun f => L.fdiv f.2 * f.1) = gl (rs.map fun f => (L.fdiv f.2 * f.1).fdiv (gcdF L 0 rs)) * gl (rs.map fun f => L.fdiv f.2 * f.1) := by rw [Nat.one_mul]; exact e2
    exact (Nat.eq_of_mul_eq_mul_right (by omega) this).symm
theorem cancel3 {k a b : Int} (hk : k ≠ 0) (h : k * a = k * b) : a = b := Int.eq_of_mul_eq_mul_left hk h
/-- a rate times the scale: a whole number -/
theorem redF_of {L G n d m : Int} (hL : 0 < L) (hG : 0 < G) (hd : 0 < d) (h : m * G * d = L * n) : redF (lowF L G) (n, d) = (m, 1) := by
  have e := lowT_self (u := L) (v := G) (by omega)
  have dp := lowD_pos (u := L) (v := G) (by omega)
  unfold redF lowF at *
  have := low_cross (u := n * lowT L G) (v := d * lowD L G) (u' := m) (v' := 1) (Int.mul_ne_zero (by omega) (by omega)) (by decide) ?_
  · unfold lowF at this
    rw [lowT_one, lowD_one] at this
    exact this
  · show n * lowT L G * 1 = m * (d * lowD L G)
    refine cancel3 (k := G) (by omega) ?_
    generalize lowT L G = a at *
    generalize lowD L G = b at *
    calc G * (n * a * 1) = n * (a * G) := by rw [Int.mul_one, Int.mul_comm G, Int.mul_assoc]
      _ = n * (L * b) := by rw [e]
      _ = L * n * b := by rw [← Int.mul_assoc, Int.mul_comm n L]
      _ = m * G * d * b := by rw [h]
      _ = G * (m * (d * b)) := by rw [Int.mul_comm m G, Int.mul_assoc, Int.mul_assoc]
theorem red_scaled {rs : List FR} (h : RsOk rs) {p q : Int} (hp : 0 < p) (hq : 0 < q) :
    RsOk (rs.map fun f => lowF (f.1 * p) (f.2 * q)) ∧ (∀ f ∈ rs, redF (scl (rs.map fun f => lowF (f.1 * p) (f.2 * q))) (lowF (f.1 * p) (f.2 * q)) = redF (scl rs) f) ∧
    ∀ b : FR, 0 < b.2 → redF (scl (rs.map fun f => lowF (f.1 * p) (f.2 * q))) (lowF (b.1 * p) (b.2 * q)) = redF (scl rs) b := by
  have fq : ∀ f ∈ rs, f.2 * q ≠ 0 := fun f hf => Int.mul_ne_zero (by have := (h.2 f hf).1; omega) (by omega)
  have h' : RsOk (rs.map fun f => lowF (f.1 * p) (f.2 * q)) := by
    refine ⟨fun z => h.1 (List.map_eq_nil_iff.mp z), fun g hg => ?_⟩
    obtain ⟨f, hf, rfl⟩ := List.mem_map.mp hg
    refine ⟨lowD_pos (fq f hf), fun z => ?_⟩
    have e := lowT_self (u := f.1 * p) (fq f hf)
    have z : lowT (f.1 * p) (f.2 * q) = 0 := z
    rw [z, Int.zero_mul] at e
    have dp := lowD_pos (u := f.1 * p) (fq f hf)
    exact (Int.mul_ne_zero (Int.mul_ne_zero (h.2 f hf).2 (by omega)) (by omega)) e.symm
  obtain ⟨L, G, Lp, Gp, eL, eG, m, hm, hg⟩ := red_facts h
  obtain ⟨L', G', Lp', Gp', eL', eG', m', hm', hg'⟩ := red_facts h'
  have es : scl rs = lowF L G := by unfold scl; rw [eL, eG]
  have es' : scl (rs.map fun f => lowF (f.1 * p) (f.2 * q)) = lowF L' G' := by unfold scl; rw [eL', eG']
  -- m' (G' q L) = m (L' p G)
  have key : ∀ f ∈ rs, m' (lowF (f.1 * p) (f.2 * q)) * (G' * q * L) = m f * (L' * p * G) := fun f hf => by
    have e1 := hm f hf
    have e2 := hm' _ (List.mem_map_of_mem (f := fun f : FR => lowF (f.1 * p) (f.2 * q)) hf)
    have e3 := lowT_self (u := f.1 * p) (fq f hf)
    have dp := lowD_pos (u := f.1 * p) (fq f hf)
    have fd := (h.2 f hf).1
    generalize m' (lowF (f.1 * p) (f.2 * q)) = M' at *
    change M' * G' * lowD (f.1 * p) (f.2 * q) = L' * lowT (f.1 * p) (f.2 * q) at e2
    generalize lowT (f.1 * p) (f.2 * q) = a at *
    generalize lowD (f.1 * p) (f.2 * q) = b at *
    generalize m f = M at *
    generalize f.1 = n at *
    generalize f.2 = d at *
    refine cancel3 (k := b * d) (Int.mul_ne_zero (by omega) (by omega)) ?_
    calc b * d * (M' * (G' * q * L)) = (M' * G' * b) * (d * q) * L := by ac_rfl
      _ = (L' * a) * (d * q) * L := by rw [e2]
      _ = L' * (a * (d * q)) * L := by ac_rfl
      _ = L' * (n * p * b) * L := by rw [e3]
      _ = L' * p * b * (L * n) := by ac_rfl
      _ = L' * p * b * (M * G * d) := by rw [e1]
      _ = b * d * (M * (L' * p * G)) := by ac_rfl
  have Bp : 0 < G' * q * L := Int.mul_pos (Int.mul_pos Gp' hq) Lp
  have Ap : 0 < L' * p * G := Int.mul_pos (Int.mul_pos Lp' hp) Gp
  have AB : G' * q * L = L' * p * G := by
    have g1 := gl_mul (G' * q * L) (rs.map fun f => m' (lowF (f.1 * p) (f.2 * q)))
    have g2 := gl_mul (L' * p * G) (rs.map m)
    have g3 : gl (rs.map fun f => m' (lowF (f.1 * p) (f.2 * q))) = 1 := by
      rw [List.map_map] at hg'
      exact hg'
    rw [g3, List.map_map, Nat.one_mul] at g1
    rw [hg, List.map_map, Nat.one_mul] at g2
    have g4 : rs.map ((· * (G' * q * L)) ∘ fun f => m' (lowF (f.1 * p) (f.2 * q))) = rs.map ((· * (L' * p * G)) ∘ m) := List.map_congr_left fun f hf => key f hf
    rw [g4, g2] at g1
    omega
  refine ⟨h', fun f hf => ?_, fun b hb => ?_⟩
  · have e := key f hf
    rw [AB] at e
    have e := Int.eq_of_mul_eq_mul_right (by omega) e
    rw [es, es', redF_of Lp Gp (h.2 f hf).1 (hm f hf), ← e]
    exact redF_of Lp' Gp' (lowD_pos (fq f hf)) (hm' _ (List.mem_map_of_mem (f := fun f : FR => lowF (f.1 * p) (f.2 * q)) hf))
  · rw [es, es']
    have bq : b.2 * q ≠ 0 := Int.mul_ne_zero (by omega) (by omega)
    have e3 := lowT_self (u := b.1 * p) bq
    have dp := lowD_pos (u := b.1 * p) bq
    have s1 := lowT_self (u := L) (v := G) (by omega)
    have s2 := lowT_self (u := L') (v := G') (by omega)
    have dp1 := lowD_pos (u := L) (v := G) (by omega)
    have dp2 := lowD_pos (u := L') (v := G') (by omega)
    unfold redF
    refine low_cross (Int.mul_ne_zero (show lowD (b.1 * p) (b.2 * q) ≠ 0 by omega) (show lowD L' G' ≠ 0 by omega)) (Int.mul_ne_zero (by omega) (show lowD L G ≠ 0 by omega)) ?_
    show lowT (b.1 * p) (b.2 * q) * lowT L' G' * (b.2 * lowD L G) = b.1 * lowT L G * (lowD (b.1 * p) (b.2 * q) * lowD L' G')
    generalize lowT (b.1 * p) (b.2 * q) = x at *
    generalize lowD (b.1 * p) (b.2 * q) = y at *
    generalize lowT L G = u at *
    generalize lowD L G = v at *
    generalize lowT L' G' = u' at *
    generalize lowD L' G' = v' at *
    refine cancel3 (k := q * G' * G) (Int.mul_ne_zero (Int.mul_ne_zero (by omega) (by omega)) (by omega)) ?_
    calc q * G' * G * (x * u' * (b.2 * v)) = (x * (b.2 * q)) * (u' * G') * (v * G) := by ac_rfl
      _ = (b.1 * p * y) * (L' * v') * (v * G) := by rw [e3, s2]
      _ = b.1 * y * v' * v * (L' * p * G) := by ac_rfl
      _ = b.1 * y * v' * v * (G' * q * L) := by rw [AB]
      _ = b.1 * (L * v) * y * v' * q * G' := by ac_rfl
      _ = b.1 * (u * G) * y * v' * q * G' := by rw [s1]
      _ = q * G' * G * (b.1 * u * (y * v')) := by ac_rfl
/-! ### sums of fractions -/
def addL (f g : FR) : FR := lowF (f.1 * g.2 + g.1 * f.2) (f.2 * g.2)
def subL (f g : FR) : FR := lowF (f.1 * g.2 - g.1 * f.2) (f.2 * g.2)
def mulL (f g : FR) : FR := lowF (f.1 * g.1) (f.2 * g.2)
def negF (f : FR) : FR := (-f.1, f.2)
def Nf (f : FR) : Prop := 0 < f.2 ∧ Int.gcd f.1 f.2 = 1
theorem nf_low {u v : Int} (h : v ≠ 0) : Nf (lowF u v) := ⟨lowD_pos h, low_gcd h⟩
theorem low_nf {f : FR} (h : Nf f) : lowF f.1 f.2 = f := by
  obtain ⟨a, b⟩ := low_one h.1 h.2
  unfold lowF
  rw [a, b]
theorem Nf.neg {f : FR} (h : Nf f) : Nf (negF f) := ⟨h.1, by show Int.gcd (-f.1) f.2 = 1; rw [Int.neg_gcd]; exact h.2⟩
theorem nf_01 : Nf (0, 1) := ⟨by decide, by decide⟩
theorem nf_11 : Nf (1, 1) := ⟨by decide, by decide⟩
theorem addL_nf {f g : FR} (hf : 0 < f.2) (hg : 0 < g.2) : Nf (addL f g) := nf_low (Int.mul_ne_zero (by omega) (by omega))
theorem subL_nf {f g : FR} (hf : 0 < f.2) (hg : 0 < g.2) : Nf (subL f g) := nf_low (Int.mul_ne_zero (by omega) (by omega))
theorem sub_add {a b c : FR} (ha : 0 < a.2) (hb : 0 < b.2) (hc : 0 < c.2) : addL (subL a b) (negF c) = subL a (addL b c) := by
  have v1 : a.2 * b.2 ≠ 0 := Int.mul_ne_zero (by omega) (by omega)
  have v2 : b.2 * c.2 ≠ 0 := Int.mul_ne_zero (by omega) (by omega)
  have e1 := lowT_self (u := a.1 * b.2 - b.1 * a.2) v1
  have e2 := lowT_self (u := b.1 * c.2 + c.1 * b.2) v2
  have p1 := lowD_pos (u := a.1 * b.2 - b.1 * a.2) v1
  have p2 := lowD_pos (u := b.1 * c.2 + c.1 * b.2) v2
  unfold addL subL negF
  unfold lowF at *
  dsimp only at *
  generalize lowT (a.1 * b.2 - b.1 * a.2) (a.2 * b.2) = t1 at *
  generalize lowD (a.1 * b.2 - b.1 * a.2) (a.2 * b.2) = d1 at *
  generalize lowT (b.1 * c.2 + c.1 * b.2) (b.2 * c.2) = t2 at *
  generalize lowD (b.1 * c.2 + c.1 * b.2) (b.2 * c.2) = d2 at *
  refine low_cross (Int.mul_ne_zero (by omega) (by omega)) (Int.mul_ne_zero (by omega) (by omega)) ?_
  refine Int.eq_of_mul_eq_mul_right (a := a.2 * b.2 * (b.2 * c.2)) (Int.mul_ne_zero v1 v2) ?_
  generalize a.1 = a1 at *
  generalize a.2 = a2 at *
  generalize b.1 = b1 at *
  generalize b.2 = b2 at *
  generalize c.1 = c1 at *
  generalize c.2 = c2 at *
  grind
theorem sub_zero {a : FR} (h : Nf a) : subL a (0, 1) = a := by
  unfold subL
  dsimp only
  rw [Int.mul_one, Int.zero_mul, Int.sub_zero, Int.mul_one]
  exact low_nf h
theorem lowF_neg {u v : Int} (h : v ≠ 0) : lowF (-u) v = negF (lowF u v) := by
  have n := (nf_low (u := u) h).neg
  rw [← low_nf n]
  have e := lowT_self (u := u) h
  have p := lowD_pos (u := u) h
  refine low_cross h (by show lowD u v ≠ 0; omega) ?_
  show -u * lowD u v = -lowT u v * v
  rw [Int.neg_mul, Int.neg_mul, e]
theorem sub_anti {a b : FR} (ha : 0 < a.2) (hb : 0 < b.2) : subL b a = negF (subL a b) := by
  unfold subL
  have v1 : a.2 * b.2 ≠ 0 := Int.mul_ne_zero (by omega) (by omega)
  rw [← lowF_neg v1, Int.mul_comm b.2 a.2]
  congr 1
  omega
theorem low_zero {u v : Int} (h : v ≠ 0) : (lowF u v).1 = 0 ↔ u = 0 := by
  have e := lowT_self (u := u) h
  have p := lowD_pos (u := u) h
  show lowT u v = 0 ↔ u = 0
  constructor
  · intro z
    rw [z, Int.zero_mul] at e
    rcases Int.mul_eq_zero.mp e.symm with y | y
    · exact y
    · omega
  · intro z
    subst z
    rw [Int.zero_mul] at e
    rcases Int.mul_eq_zero.mp e with y | y
    · exact y
    · exact absurd y h
theorem neg_neg {f : FR} : negF (negF f) = f := by
  unfold negF
  rw [Int.neg_neg]
/-- the rate of a name in a list of rates -/
abbrev It := List Nat × FR
def sumX (x : List Nat) (acc : FR) (l : List It) : FR := l.foldl (fun a it => if it.1 = x then addL a it.2 else a) acc
theorem sumX_nf (x : List Nat) : ∀ (l : List It) (acc : FR), Nf acc → (∀ it ∈ l, Nf it.2) → Nf (sumX x acc l)
  | [], _, h, _ => h
  | it :: l, acc, h, hl => by
    refine sumX_nf x l _ ?_ fun i hi => hl i (List.mem_cons_of_mem _ hi)
    show Nf (if it.1 = x then addL acc it.2 else acc)
    split
    · exact addL_nf h.1 (hl it List.mem_cons_self).1
    · exact h
theorem sumX_sub (x : List Nat) (a : FR) (ha : Nf a) : ∀ (l : List It) (b : FR), Nf b → (∀ it ∈ l, Nf it.2) → sumX x (subL a b) (l.map fun it => (it.1, negF it.2)) = subL a (sumX x b l)
  | [], _, _, _ => rfl
  | it :: l, b, hb, hl => by
    have h1 := hl it List.mem_cons_self
    have ih := fun b hb => sumX_sub x a ha l b hb fun i hi => hl i (List.mem_cons_of_mem _ hi)
    show sumX x (if it.1 = x then addL (subL a b) (negF it.2) else subL a b) _ = subL a (sumX x (if it.1 = x then addL b it.2 else b) l)
    split
    · rw [sub_add ha.1 hb.1 h1.1]
      exact ih _ (addL_nf hb.1 h1.1)
    · exact ih _ hb
theorem sumX_app (x : List Nat) (acc : FR) (l r : List It) : sumX x acc (l ++ r) = sumX x (sumX x acc l) r := List.foldl_append
theorem sumX_law (x : List Nat) {l r : List It} (hl : ∀ it ∈ l, Nf it.2) (hr : ∀ it ∈ r, Nf it.2) : sumX x (0, 1) (l ++ r.map fun it => (it.1, negF it.2)) = subL (sumX x (0, 1) l) (sumX x (0, 1) r) := by
  have h := sumX_nf x l (0, 1) nf_01 hl
  rw [sumX_app, ← sumX_sub x _ h r _ nf_01 hr, sub_zero h]
theorem sumX_none (x : List Nat) : ∀ (l : List It) (acc : FR), (∀ it ∈ l, it.1 ≠ x) → sumX x acc l = acc
  | [], _, _ => rfl
  | it :: l, acc, h => by
    show sumX x (if it.1 = x then _ else acc) l = acc
    rw [if_neg (h it List.mem_cons_self)]
    exact sumX_none x l acc fun i hi => h i (List.mem_cons_of_mem _ hi)
/-! ### sizes -/
def Bn (k : Nat) (f : FR) : Prop := f.1.natAbs < 2 ^ k ∧ f.2.natAbs < 2 ^ k
theorem Bn.mono {k j : Nat} {f : FR} (h : Bn k f) (l : k ≤ j) : Bn j f := ⟨Nat.lt_of_lt_of_le h.1 (Nat.pow_le_pow_right (by decide) l), Nat.lt_of_lt_of_le h.2 (Nat.pow_le_pow_right (by decide) l)⟩
theorem Bn.low {k : Nat} {u v : Int} (h : v ≠ 0) (h1 : u.natAbs < 2 ^ k) (h2 : v.natAbs < 2 ^ k) : Bn k (lowF u v) :=
  ⟨Nat.lt_of_le_of_lt (lowT_abs h) h1, Nat.lt_of_le_of_lt (lowD_abs h) h2⟩
theorem pow_mul_lt {k j a b : Nat} (h1 : a < 2 ^ k) (h2 : b < 2 ^ j) : a * b < 2 ^ (k + j) := by
  rw [Nat.pow_add]
  exact Nat.mul_lt_mul'' h1 h2
theorem Bn.add {k j : Nat} {f g : FR} (hf : Bn k f) (hg : Bn j g) (pf : 0 < f.2) (pg : 0 < g.2) : Bn (k + j + 1) (addL f g) := by
  refine Bn.low (Int.mul_ne_zero (by omega) (by omega)) ?_ ?_
  · have h1 : (f.1 * g.2).natAbs < 2 ^ (k + j) := by rw [Int.natAbs_mul]; exact pow_mul_lt hf.1 hg.2
    have h2 : (g.1 * f.2).natAbs < 2 ^ (k + j) := by rw [Int.natAbs_mul, Nat.mul_comm]; exact pow_mul_lt hf.2 hg.1
    have := Int.natAbs_add_le (f.1 * g.2) (g.1 * f.2)
    rw [Nat.pow_succ]
    omega
  · have h1 : (f.2 * g.2).natAbs < 2 ^ (k + j) := by rw [Int.natAbs_mul]; exact pow_mul_lt hf.2 hg.2
    rw [Nat.pow_succ]
    omega
theorem Bn.sub {k j : Nat} {f g : FR} (hf : Bn k f) (hg : Bn j g) (pf : 0 < f.2) (pg : 0 < g.2) : Bn (k + j + 1) (subL f g) := by
  refine Bn.low (Int.mul_ne_zero (by omega) (by omega)) ?_ ?_
  · have h1 : (f.1 * g.2).natAbs < 2 ^ (k + j) := by rw [Int.natAbs_mul]; exact pow_mul_lt hf.1 hg.2
    have h2 : (g.1 * f.2).natAbs < 2 ^ (k + j) := by rw [Int.natAbs_mul, Nat.mul_comm]; exact pow_mul_lt hf.2 hg.1
    have := Int.natAbs_sub_le (f.1 * g.2) (g.1 * f.2)
    rw [Nat.pow_succ]
    omega
  · have h1 : (f.2 * g.2).natAbs < 2 ^ (k + j) := by rw [Int.natAbs_mul]; exact pow_mul_lt hf.2 hg.2
    rw [Nat.pow_succ]
    omega
theorem Bn.mul {k j : Nat} {f g : FR} (hf : Bn k f) (hg : Bn j g) (pf : 0 < f.2) (pg : 0 < g.2) : Bn (k + j) (mulL f g) :=
  Bn.low (Int.mul_ne_zero (by omega) (by omega)) (by rw [Int.natAbs_mul]; exact pow_mul_lt hf.1 hg.1) (by rw [Int.natAbs_mul]; exact pow_mul_lt hf.2 hg.2)
theorem Bn.neg {k : Nat} {f : FR} (h : Bn k f) : Bn k (negF f) := ⟨by show (-f.1).natAbs < _; rw [Int.natAbs_neg]; exact h.1, h.2⟩
def bw (f : FR) : Nat := f.1.natAbs.log2 + f.2.natAbs.log2 + 1
theorem bw_bn (f : FR) : Bn (bw f) f := by
  have key : ∀ n : Nat, n < 2 ^ (n.log2 + 1) := fun n => Nat.lt_log2_self
  exact ⟨Nat.lt_of_lt_of_le (key _) (Nat.pow_le_pow_right (by decide) (by unfold bw; omega)), Nat.lt_of_lt_of_le (key _) (Nat.pow_le_pow_right (by decide) (by unfold bw; omega))⟩
def wIt (l : List It) : Nat := (l.map fun it => bw it.2 + 1).sum
theorem sumX_bn (x : List Nat) : ∀ (l : List It) (acc : FR) (k : Nat), Nf acc → Bn k acc → (∀ it ∈ l, Nf it.2) → Bn (k + wIt l) (sumX x acc l)
  | [], _, _, _, h, _ => h
  | it :: l, acc, k, hn, h, hl => by
    have h1 := hl it List.mem_cons_self
    have e : k + wIt (it :: l) = k + bw it.2 + 1 + wIt l := by
      unfold wIt
      rw [List.map_cons, List.sum_cons]
      omega
    rw [e]
    show Bn _ (sumX x (if it.1 = x then addL acc it.2 else acc) l)
    have hl' : ∀ i ∈ l, Nf i.2 := fun i hi => hl i (List.mem_cons_of_mem _ hi)
    split
    · exact sumX_bn x l _ _ (addL_nf hn.1 h1.1) (Bn.add h (bw_bn _) hn.1 h1.1) hl'
    · exact sumX_bn x l _ _ hn (h.mono (by omega)) hl'
theorem bn_01 : Bn 1 (0, 1) := ⟨by decide, by decide⟩
theorem log_bn {k : Nat} {z : Int} (h : z.natAbs < 2 ^ k) (hk : k ≤ 4096) : z.natAbs.log2 < 4096 ∨ z = 0 := by
  by_cases h0 : z.natAbs = 0
  · exact .inr (by omega)
  · exact .inl ((Nat.log2_lt h0).mpr (Nat.lt_of_lt_of_le h (Nat.pow_le_pow_right (by decide) hk)))
theorem log_lt {k : Nat} {n : Nat} (h : n < 2 ^ k) (hk : 0 < k) : n.log2 < k := by
  by_cases h0 : n = 0
  · rw [h0, Nat.log2_zero]
    exact hk
  · exact (Nat.log2_lt h0).mpr h
section
variable {P : Program} {w : World} {K : PySem.W.Frag} {mg : Str → Option Value} {base : Heap} {fa : Nat → Addr} {fd : Nat → FuncData}
/-! ### fractions, with numbers of any sort -/
theorem ok_p_ratio0 (T : Txt K mg fa fd) : FnOk P w K mg base CX0 3 (fa 10) (fd 10) ["top", "under"] spLow := by
  refine T.F_p_ratio.ok sc_p_ratio (fun vs H Q E h => ?_) (fun cdv A outer s H vs Q E hr h => ?_)
  · obtain ⟨x, y, rfl, _⟩ := h
    rfl
  · obtain ⟨u, v, rfl, ev, h9, q⟩ := h
    refine ⟨_, (pss_cons (ps_if (pt_cmpR op_eq (pv 1) pe_int (nomark _)) (pss_one ps_never) pss_nil)
      (pss_cons (ps_set (i := 2) sc_p_ratio.nd rfl (.inl rfl) (pe_call (ok_p_common_divisor T) (hr.mono (by decide)) (by rfl) T.g_p_common_divisor T.F_p_common_divisor.kp T.b_p_common_divisor .nil pass0 (pa_cons (pv 0) (pa_cons (pv 1) pa_nil))))
      (C8.pss_cut (ps_if (pt_cmpR op_lt (pv 1) pe_int (nomark _)) (pss_one (ps_set (i := 2) sc_p_ratio.nd rfl (.inl rfl) (pe_un un_neg (pv 2)))) pss_nil)
      (pss_one (ps_ret (pe_tup (pa_cons (pe_op op_fdivG (pv 0) (pv 2)) (pa_cons (pe_op op_fdivG (pv 1) (pv 2)) pa_nil)))))))), ?_⟩
    refine ⟨_, rfl, rfl, _, rfl, ite2 (fun e => absurd (V.int.inj (of_decide_eq_true e)) ev) (fun _ => ?_)⟩
    refine ⟨_, rfl, _, rfl, u, v, rfl, .inr h9, ?_⟩
    refine ⟨fun σ H1 => H1 = H ∧ σ = [some (.int u), some (.int v), some (.int (lowG u v))], ?_, fun σ H1 hM => ?_⟩
    · refine ⟨_, rfl, _, _, rfl, rfl, _, rfl, ite2 (fun e => ?_) (fun e => ?_)⟩
      · refine ⟨_, rfl, _, rfl, rfl, ?_⟩
        unfold lowG
        rw [if_pos (of_decide_eq_true e)]
        rfl
      · refine ⟨rfl, ?_⟩
        unfold lowG
        rw [if_neg (fun z => e (decide_eq_true z))]
        rfl
    · obtain ⟨rfl, rfl⟩ := hM
      have hG := lowG_ok (u := u) ev h9
      exact ⟨_, rfl, _, rfl, _, _, rfl, rfl, hG, _, rfl, _, rfl, _, _, rfl, rfl, hG, two_line, q⟩
theorem t0 {x y : V} : atI [x, y] 0 = some x := rfl
theorem t1 {x y : V} : atI [x, y] 1 = some y := rfl
abbrev FrK (K : PySem.W.Frag) (H : Hp) (p : Addr) (f : FR) : Prop := SqT K H p [.int f.1, .int f.2]
abbrev trF (f : FR) : HO := .tup [.int f.1, .int f.2]
theorem wide {k : Nat} {f g : FR} {x y : Int} (hk : k ≤ 2048) (h1 : x.natAbs < 2 ^ k) (h2 : y.natAbs < 2 ^ k) : CMulW x y := by
  have a := log_lt (n := x.natAbs) (k := 2048) (Nat.lt_of_lt_of_le h1 (Nat.pow_le_pow_right (by decide) hk)) (by decide)
  have b := log_lt (n := y.natAbs) (k := 2048) (Nat.lt_of_lt_of_le h2 (Nat.pow_le_pow_right (by decide) hk)) (by decide)
  show _ + _ < 1000000
  omega
theorem bd_bn {z : Int} {k : Nat} (h : z.natAbs < 2 ^ k) (hk : k ≤ 4096) : Bd z := log_lt (Nat.lt_of_lt_of_le h (Nat.pow_le_pow_right (by decide) hk)) (by decide)
theorem den9 {k : Nat} {x y : Int} (hk : k ≤ 2048) (h1 : x.natAbs < 2 ^ k) (h2 : y.natAbs < 2 ^ k) : (x * y).natAbs.log2 < 4096 := by
  rw [Int.natAbs_mul]
  exact log_lt (Nat.lt_of_lt_of_le (pow_mul_lt h1 h2) (Nat.pow_le_pow_right (by decide) (by omega))) (by decide)
def spBn (K : PySem.W.Frag) (G : FR → FR → FR) : Sp := fun vs H Q _ => ∃ (p q : Addr) (f g : FR), vs = [.ref p, .ref q] ∧ FrK K H p f ∧ FrK K H q g ∧ 0 < f.2 ∧ 0 < g.2 ∧ Bn 2048 f ∧ Bn 2048 g ∧ ∀ o, H o = none → Q (.ref o) (upd H o (trF (G f g)))
theorem ok_p_add (T : Txt K mg fa fd) : FnOk P w K mg base CX0 4 (fa 11) (fd 11) ["one", "other"] (spBn K addL) := by
  refine T.F_p_add.ok sc_p_add (fun vs H Q E h => ?_) (fun cdv A outer s H vs Q E hr h => ?_)
  · obtain ⟨p, q, f, g, rfl, _⟩ := h
    rfl
  · obtain ⟨p, r, f, g, rfl, hp, hr', pf, pg, sf, sg, q⟩ := h
    refine ⟨_, (pss_one (ps_ret (pe_call (ok_p_ratio0 T) (hr.mono (by decide)) (by rfl) T.g_p_ratio T.F_p_ratio.kp T.b_p_ratio .nil pass0 (pa_cons (pe_op op_add (pe_op op_mulW (pe_ix ix_tup (pv 0) pe_int (fun _ _ => rfl)) (pe_ix ix_tup (pv 1) pe_int (fun _ _ => rfl))) (pe_op op_mulW (pe_ix ix_tup (pv 1) pe_int (fun _ _ => rfl)) (pe_ix ix_tup (pv 0) pe_int (fun _ _ => rfl)))) (pa_cons (pe_op op_mulW (pe_ix ix_tup (pv 0) pe_int (fun _ _ => rfl)) (pe_ix ix_tup (pv 1) pe_int (fun _ _ => rfl))) pa_nil))))), ?_⟩
    exact ⟨_, rfl, p, _, _, _, rfl, rfl, hp, t0, _, rfl, r, _, _, _, rfl, rfl, hr', t1, _, _, rfl, rfl, wide (f := f) (g := g) (Nat.le_refl _) sf.1 sg.2,
      _, rfl, r, _, _, _, rfl, rfl, hr', t0, _, rfl, p, _, _, _, rfl, rfl, hp, t1, _, _, rfl, rfl, wide (f := f) (g := g) (Nat.le_refl _) sg.1 sf.2, _, _, rfl, rfl,
      _, rfl, p, _, _, _, rfl, rfl, hp, t1, _, rfl, r, _, _, _, rfl, rfl, hr', t1, _, _, rfl, rfl, wide (f := f) (g := g) (Nat.le_refl _) sf.2 sg.2, _, _, rfl, Int.mul_ne_zero (by omega) (by omega), den9 (Nat.le_refl _) sf.2 sg.2, q⟩
theorem ok_p_multiply (T : Txt K mg fa fd) : FnOk P w K mg base CX0 4 (fa 13) (fd 13) ["one", "other"] (spBn K mulL) := by
  refine T.F_p_multiply.ok sc_p_multiply (fun vs H Q E h => ?_) (fun cdv A outer s H vs Q E hr h => ?_)
  · obtain ⟨p, q, f, g, rfl, _⟩ := h
    rfl
  · obtain ⟨p, r, f, g, rfl, hp, hr', pf, pg, sf, sg, q⟩ := h
    refine ⟨_, (pss_one (ps_ret (pe_call (ok_p_ratio0 T) (hr.mono (by decide)) (by rfl) T.g_p_ratio T.F_p_ratio.kp T.b_p_ratio .nil pass0 (pa_cons (pe_op op_mulW (pe_ix ix_tup (pv 0) pe_int (fun _ _ => rfl)) (pe_ix ix_tup (pv 1) pe_int (fun _ _ => rfl))) (pa_cons (pe_op op_mulW (pe_ix ix_tup (pv 0) pe_int (fun _ _ => rfl)) (pe_ix ix_tup (pv 1) pe_int (fun _ _ => rfl))) pa_nil))))), ?_⟩
    exact ⟨_, rfl, p, _, _, _, rfl, rfl, hp, t0, _, rfl, r, _, _, _, rfl, rfl, hr', t0, _, _, rfl, rfl, wide (f := f) (g := g) (Nat.le_refl _) sf.1 sg.1,
      _, rfl, p, _, _, _, rfl, rfl, hp, t1, _, rfl, r, _, _, _, rfl, rfl, hr', t1, _, _, rfl, rfl, wide (f := f) (g := g) (Nat.le_refl _) sf.2 sg.2, _, _, rfl, Int.mul_ne_zero (by omega) (by omega), den9 (Nat.le_refl _) sf.2 sg.2, q⟩
theorem ok_plus (T : Txt K mg fa fd) : FnOk P w K mg base CX0 4 (fa 33) (fd 33) ["_law_one", "_law_two"] (spBn K addL) := by
  refine T.F_plus.ok sc_plus (fun vs H Q E h => ?_) (fun cdv A outer s H vs Q E hr h => ?_)
  · obtain ⟨p, q, f, g, rfl, _⟩ := h
    rfl
  · obtain ⟨p, r, f, g, rfl, hp, hr', pf, pg, sf, sg, q⟩ := h
    refine ⟨_, (pss_one (ps_ret (pe_call (ok_low T) (hr.mono (by decide)) (by rfl) T.g_low T.F_low.kp T.b_low .nil pass0 (pa_cons (pe_op op_add (pe_op op_mulW (pe_ix ix_tup (pv 0) pe_int (fun _ _ => rfl)) (pe_ix ix_tup (pv 1) pe_int (fun _ _ => rfl))) (pe_op op_mulW (pe_ix ix_tup (pv 1) pe_int (fun _ _ => rfl)) (pe_ix ix_tup (pv 0) pe_int (fun _ _ => rfl)))) (pa_cons (pe_op op_mulW (pe_ix ix_tup (pv 0) pe_int (fun _ _ => rfl)) (pe_ix ix_tup (pv 1) pe_int (fun _ _ => rfl))) pa_nil))))), ?_⟩
    exact ⟨_, rfl, p, _, _, _, rfl, rfl, hp, t0, _, rfl, r, _, _, _, rfl, rfl, hr', t1, _, _, rfl, rfl, wide (f := f) (g := g) (Nat.le_refl _) sf.1 sg.2,
      _, rfl, r, _, _, _, rfl, rfl, hr', t0, _, rfl, p, _, _, _, rfl, rfl, hp, t1, _, _, rfl, rfl, wide (f := f) (g := g) (Nat.le_refl _) sg.1 sf.2, _, _, rfl, rfl,
      _, rfl, p, _, _, _, rfl, rfl, hp, t1, _, rfl, r, _, _, _, rfl, rfl, hr', t1, _, _, rfl, rfl, wide (f := f) (g := g) (Nat.le_refl _) sf.2 sg.2, _, _, rfl, Int.mul_ne_zero (by omega) (by omega), den9 (Nat.le_refl _) sf.2 sg.2, q⟩
theorem ok_by (T : Txt K mg fa fd) : FnOk P w K mg base CX0 4 (fa 35) (fd 35) ["_law_one", "_law_two"] (spBn K mulL) := by
  refine T.F_by.ok sc_by (fun vs H Q E h => ?_) (fun cdv A outer s H vs Q E hr h => ?_)
  · obtain ⟨p, q, f, g, rfl, _⟩ := h
    rfl
  · obtain ⟨p, r, f, g, rfl, hp, hr', pf, pg, sf, sg, q⟩ := h
    refine ⟨_, (pss_one (ps_ret (pe_call (ok_low T) (hr.mono (by decide)) (by rfl) T.g_low T.F_low.kp T.b_low .nil pass0 (pa_cons (pe_op op_mulW (pe_ix ix_tup (pv 0) pe_int (fun _ _ => rfl)) (pe_ix ix_tup (pv 1) pe_int (fun _ _ => rfl))) (pa_cons (pe_op op_mulW (pe_ix ix_tup (pv 0) pe_int (fun _ _ => rfl)) (pe_ix ix_tup (pv 1) pe_int (fun _ _ => rfl))) pa_nil))))), ?_⟩
    exact ⟨_, rfl, p, _, _, _, rfl, rfl, hp, t0, _, rfl, r, _, _, _, rfl, rfl, hr', t0, _, _, rfl, rfl, wide (f := f) (g := g) (Nat.le_refl _) sf.1 sg.1,
      _, rfl, p, _, _, _, rfl, rfl, hp, t1, _, rfl, r, _, _, _, rfl, rfl, hr', t1, _, _, rfl, rfl, wide (f := f) (g := g) (Nat.le_refl _) sf.2 sg.2, _, _, rfl, Int.mul_ne_zero (by omega) (by omega), den9 (Nat.le_refl _) sf.2 sg.2, q⟩
def spNeg (K : PySem.W.Frag) : Sp := fun vs H Q _ => ∃ (p : Addr) (f : FR), vs = [.ref p] ∧ FrK K H p f ∧ ∀ o, H o = none → Q (.ref o) (upd H o (trF (negF f)))
theorem ok_minus (T : Txt K mg fa fd) : FnOk P w K mg base CX0 1 (fa 34) (fd 34) ["_law_one"] (spNeg K) := by
  refine T.F_minus.ok sc_minus (fun vs H Q E h => ?_) (fun cdv A outer s H vs Q E hr h => ?_)
  · obtain ⟨p, f, rfl, _⟩ := h
    rfl
  · obtain ⟨p, f, rfl, hp, q⟩ := h
    refine ⟨_, (pss_one (ps_ret (pe_tup (pa_cons (pe_un un_neg (pe_ix ix_tup (pv 0) pe_int (fun _ _ => rfl))) (pa_cons (pe_ix ix_tup (pv 0) pe_int (fun _ _ => rfl)) pa_nil))))), ?_⟩
    exact ⟨_, rfl, p, _, _, _, rfl, rfl, hp, t0, _, rfl, _, rfl, p, _, _, _, rfl, rfl, hp, t1, two_line, q⟩
def ltF (f g : FR) : Bool := decide (f.1 * g.2 < g.1 * f.2)
def spUnder (K : PySem.W.Frag) : Sp := fun vs H Q _ => ∃ (p q : Addr) (f g : FR), vs = [.ref p, .ref q] ∧ FrK K H p f ∧ FrK K H q g ∧ Bn 2048 f ∧ Bn 2048 g ∧ Q (.bl (ltF f g)) H
theorem ok_under (T : Txt K mg fa fd) : FnOk P w K mg base CX0 1 (fa 36) (fd 36) ["_law_one", "_law_two"] (spUnder K) := by
  refine T.F_under.ok sc_under (fun vs H Q E h => ?_) (fun cdv A outer s H vs Q E hr h => ?_)
  · obtain ⟨p, q, f, g, rfl, _⟩ := h
    rfl
  · obtain ⟨p, r, f, g, rfl, hp, hr', sf, sg, q⟩ := h
    exact ⟨_, (pss_one (ps_ret (pe_cmpR op_lt (pe_op op_mulW (pe_ix ix_tup (pv 0) pe_int (fun _ _ => rfl)) (pe_ix ix_tup (pv 1) pe_int (fun _ _ => rfl))) (pe_op op_mulW (pe_ix ix_tup (pv 1) pe_int (fun _ _ => rfl)) (pe_ix ix_tup (pv 0) pe_int (fun _ _ => rfl))) (nomark _)))), _, rfl, p, _, _, _, rfl, rfl, hp, t0, _, rfl, r, _, _, _, rfl, rfl, hr', t1, _, _, rfl, rfl, wide (f := f) (g := g) (Nat.le_refl _) sf.1 sg.2,
      _, rfl, r, _, _, _, rfl, rfl, hr', t0, _, rfl, p, _, _, _, rfl, rfl, hp, t1, _, _, rfl, rfl, wide (f := f) (g := g) (Nat.le_refl _) sg.1 sf.2, _, _, rfl, rfl, q⟩
theorem ok_p_is_less (T : Txt K mg fa fd) : FnOk P w K mg base CX0 1 (fa 14) (fd 14) ["one", "other"] (spUnder K) := by
  refine T.F_p_is_less.ok sc_p_is_less (fun vs H Q E h => ?_) (fun cdv A outer s H vs Q E hr h => ?_)
  · obtain ⟨p, q, f, g, rfl, _⟩ := h
    rfl
  · obtain ⟨p, r, f, g, rfl, hp, hr', sf, sg, q⟩ := h
    exact ⟨_, (pss_one (ps_ret (pe_cmpR op_lt (pe_op op_mulW (pe_ix ix_tup (pv 0) pe_int (fun _ _ => rfl)) (pe_ix ix_tup (pv 1) pe_int (fun _ _ => rfl))) (pe_op op_mulW (pe_ix ix_tup (pv 1) pe_int (fun _ _ => rfl)) (pe_ix ix_tup (pv 0) pe_int (fun _ _ => rfl))) (nomark _)))), _, rfl, p, _, _, _, rfl, rfl, hp, t0, _, rfl, r, _, _, _, rfl, rfl, hr', t1, _, _, rfl, rfl, wide (f := f) (g := g) (Nat.le_refl _) sf.1 sg.2,
      _, rfl, r, _, _, _, rfl, rfl, hr', t0, _, rfl, p, _, _, _, rfl, rfl, hp, t1, _, _, rfl, rfl, wide (f := f) (g := g) (Nat.le_refl _) sg.1 sf.2, _, _, rfl, rfl, q⟩
end
section
variable {P : Program} {w : World} {K : PySem.W.Frag} {mg : Str → Option Value} {base : Heap} {fa : Nat → Addr} {fd : Nat → FuncData}
theorem ok_p_subtract (T : Txt K mg fa fd) : FnOk P w K mg base CX0 4 (fa 12) (fd 12) ["one", "other"] (spBn K subL) := by
  refine T.F_p_subtract.ok sc_p_subtract (fun vs H Q E h => ?_) (fun cdv A outer s H vs Q E hr h => ?_)
  · obtain ⟨p, q, f, g, rfl, _⟩ := h
    rfl
  · obtain ⟨p, r, f, g, rfl, hp, hr', pf, pg, sf, sg, q⟩ := h
    refine ⟨_, (pss_one (ps_ret (pe_call (ok_p_ratio0 T) (hr.mono (by decide)) (by rfl) T.g_p_ratio T.F_p_ratio.kp T.b_p_ratio .nil pass0 (pa_cons (pe_op op_sub (pe_op op_mulW (pe_ix ix_tup (pv 0) pe_int (fun _ _ => rfl)) (pe_ix ix_tup (pv 1) pe_int (fun _ _ => rfl))) (pe_op op_mulW (pe_ix ix_tup (pv 1) pe_int (fun _ _ => rfl)) (pe_ix ix_tup (pv 0) pe_int (fun _ _ => rfl)))) (pa_cons (pe_op op_mulW (pe_ix ix_tup (pv 0) pe_int (fun _ _ => rfl)) (pe_ix ix_tup (pv 1) pe_int (fun _ _ => rfl))) pa_nil))))), ?_⟩
    exact ⟨_, rfl, p, _, _, _, rfl, rfl, hp, t0, _, rfl, r, _, _, _, rfl, rfl, hr', t1, _, _, rfl, rfl, wide (f := f) (g := g) (Nat.le_refl _) sf.1 sg.2,
      _, rfl, r, _, _, _, rfl, rfl, hr', t0, _, rfl, p, _, _, _, rfl, rfl, hp, t1, _, _, rfl, rfl, wide (f := f) (g := g) (Nat.le_refl _) sg.1 sf.2, _, _, rfl, rfl,
      _, rfl, p, _, _, _, rfl, rfl, hp, t1, _, rfl, r, _, _, _, rfl, rfl, hr', t1, _, _, rfl, rfl, wide (f := f) (g := g) (Nat.le_refl _) sf.2 sg.2, _, _, rfl, Int.mul_ne_zero (by omega) (by omega), den9 (Nat.le_refl _) sf.2 sg.2, q⟩
end
/-! ### dicts of rates -/
theorem nd_snoc8 {α : Type} {l : List α} {k : α} (h : l.Nodup) (n : ¬ k ∈ l) : (l ++ [k]).Nodup := by
  rw [List.nodup_append]
  refine ⟨h, by simp, fun a ha b hb e => ?_⟩
  rw [List.mem_singleton.mp hb] at e
  rw [e] at ha
  exact n ha
theorem valV_in8 : ∀ {kvs : List (Key × V)} {k : Key} {v : V}, valV kvs k = some v → k ∈ kvs.map (·.1)
  | [], k, v, h => by cases h
  | p :: r, k, v, h => by
    by_cases e : p.1 = k
    · rw [List.map_cons, e]
      exact List.mem_cons_self
    · rw [valV_neg e] at h
      exact List.mem_cons_of_mem _ (valV_in8 h)
def keyOf (x : List Nat) : Key := .inr (SX.S x)
theorem key_inj {x y : List Nat} (h : keyOf x = keyOf y) : x = y := S_inj (Sum.inr.inj h)
def addN (N : List (List Nat)) (x : List Nat) : List (List Nat) := if x ∈ N then N else N ++ [x]
def setV (val : List Nat → FR) (x : List Nat) (f : FR) : List Nat → FR := fun y => if y = x then f else val y
theorem addN_len (N : List (List Nat)) (x : List Nat) : (addN N x).length ≤ N.length + 1 := by
  unfold addN
  split
  · omega
  · rw [List.length_append]
    exact Nat.le_refl _
theorem mem_addN {N : List (List Nat)} {x y : List Nat} : y ∈ addN N x ↔ y ∈ N ∨ y = x := by
  unfold addN
  split
  · rename_i h
    exact ⟨.inl, fun z => z.elim id fun e => by rw [e]; exact h⟩
  · rw [List.mem_append, List.mem_singleton]
theorem addN_nodup {N : List (List Nat)} (h : N.Nodup) (x : List Nat) : (addN N x).Nodup := by
  unfold addN
  split
  · exact h
  · rename_i n
    exact nd_snoc8 h n
/-- a rate in a dict: nought, or a tuple that was made -/
def FrV (K : PySem.W.Frag) (H : Hp) (p : Addr) (f : FR) : Prop := FrK K H p f ∧ (f = (0, 1) ∨ H p = some (trF f))
def Tr (K : PySem.W.Frag) (H H' : Hp) : Prop := (∀ p xs, SqT K H p xs → SqT K H' p xs) ∧ ∀ p xs, H p = some (.tup xs) → H' p = some (.tup xs)
def RDk (K : PySem.W.Frag) (H : Hp) (kvs : List (Key × V)) (N : List (List Nat)) (val : List Nat → FR) : Prop :=
  kvs.map (·.1) = N.map keyOf ∧ N.Nodup ∧ ∀ x ∈ N, ∃ p, valV kvs (keyOf x) = some (.ref p) ∧ FrV K H p (val x)
def RD (K : PySem.W.Frag) (H : Hp) (d : Addr) (N : List (List Nat)) (val : List Nat → FR) : Prop := ∃ kvs, H d = some (.dK kvs) ∧ RDk K H kvs N val
theorem RDk.len {K : PySem.W.Frag} {H : Hp} {kvs : List (Key × V)} {N : List (List Nat)} {val : List Nat → FR} (h : RDk K H kvs N val) : kvs.length = N.length := by
  have := congrArg List.length h.1
  rw [List.length_map, List.length_map] at this
  exact this
theorem RDk.none {K : PySem.W.Frag} {H : Hp} {kvs : List (Key × V)} {N : List (List Nat)} {val : List Nat → FR} (h : RDk K H kvs N val) {x : List Nat} (n : x ∉ N) : valV kvs (keyOf x) = .none := by
  cases e : valV kvs (keyOf x) with
  | none => rfl
  | some v =>
    have m := valV_in8 e
    rw [h.1] at m
    obtain ⟨y, hy, ey⟩ := List.mem_map.mp m
    rw [key_inj ey] at hy
    exact absurd hy n
theorem RDk.mono {K : PySem.W.Frag} {H H' : Hp} {kvs : List (Key × V)} {N : List (List Nat)} {val : List Nat → FR} (h : RDk K H kvs N val) (t : Tr K H H') : RDk K H' kvs N val := by
  refine ⟨h.1, h.2.1, fun x hx => ?_⟩
  obtain ⟨p, e, f⟩ := h.2.2 x hx
  exact ⟨p, e, t.1 _ _ f.1, f.2.imp id (t.2 _ _)⟩
theorem put_keys (kvs : List (Key × V)) (k : Key) (v : V) : (putK kvs k v).map (·.1) = if (valV kvs k).isSome = true then kvs.map (·.1) else kvs.map (·.1) ++ [k] := by
  unfold putK
  rw [valV_any]
  split
  · rw [List.map_map]
    refine List.map_congr_left fun kv _ => ?_
    show (if kv.1 = k then (kv.1, v) else kv).1 = kv.1
    split <;> rfl
  · rw [List.map_append]
    rfl
theorem RDk.put {K : PySem.W.Frag} {H : Hp} {kvs : List (Key × V)} {N : List (List Nat)} {val : List Nat → FR} (h : RDk K H kvs N val) {x : List Nat} {o : Addr} {f : FR} (ho : H o = some (trF f)) : RDk K H (putK kvs (keyOf x) (.ref o)) (addN N x) (setV val x f) := by
  refine ⟨?_, addN_nodup h.2.1 x, fun y hy => ?_⟩
  · rw [put_keys, h.1]
    unfold addN
    by_cases m : x ∈ N
    · obtain ⟨p, e, _⟩ := h.2.2 x m
      rw [e, if_pos m]
      rfl
    · rw [h.none m, if_neg (by decide), if_neg m, List.map_append]
      rfl
  · rw [valV_put]
    by_cases e : y = x
    · subst e
      refine ⟨o, if_pos rfl, ?_⟩
      unfold setV
      rw [if_pos rfl]
      exact ⟨SqT.of ho, .inr ho⟩
    · have hy : y ∈ N := (mem_addN.mp hy).resolve_right e
      obtain ⟨p, e2, f2⟩ := h.2.2 y hy
      refine ⟨p, ?_, ?_⟩
      · rw [if_neg fun z => e (key_inj z)]
        exact e2
      · unfold setV
        rw [if_neg e]
        exact f2
theorem Tr.updD {K : PySem.W.Frag} {H : Hp} {d : Addr} {kvs ks : List (Key × V)} (hd : H d = some (.dK kvs)) : Tr K H (upd H d (.dK ks)) := ⟨fun p xs h => by
  rcases h with (h | ⟨o, h⟩) | h
  · refine .inl (.inl ?_)
    rw [upd_ne (fun e => by rw [e, hd] at h; cases h)]
    exact h
  · refine .inl (.inr ⟨o, ?_⟩)
    rw [upd_ne (fun e => by rw [e, hd] at h; cases h)]
    exact h
  · exact .inr h, fun p xs h => by
  rw [upd_ne (fun e => by rw [e, hd] at h; cases h)]
  exact h⟩
theorem SqT.sm {K : PySem.W.Frag} {H H' : Hp} (s : Same H H') : ∀ p xs, SqT K H p xs → SqT K H' p xs := fun p xs h => by
  rcases h with (h | ⟨o, h⟩) | h
  · exact .inl (.inl (s _ _ h))
  · exact .inl (.inr ⟨o, s _ _ h⟩)
  · exact .inr h
theorem Tr.sm {K : PySem.W.Frag} {H H' : Hp} (s : Same H H') : Tr K H H' := ⟨SqT.sm s, fun p _ h => s p _ h⟩
theorem RD.same {K : PySem.W.Frag} {H H' : Hp} {d : Addr} {N : List (List Nat)} {val : List Nat → FR} (h : RD K H d N val) (s : Same H H') : RD K H' d N val := by
  obtain ⟨kvs, e, h⟩ := h
  exact ⟨kvs, s _ _ e, h.mono (Tr.sm s)⟩
def keysL (l : List It) : List (List Nat) := l.foldl (fun N it => addN N it.1) [[]]
def valL (l : List It) : List Nat → FR := fun x => sumX x (0, 1) l
theorem keysL_snoc (l : List It) (it : It) : keysL (l ++ [it]) = addN (keysL l) it.1 := by
  unfold keysL
  rw [List.foldl_append]
  rfl
theorem valL_snoc (l : List It) (x : List Nat) (f : FR) : valL (l ++ [(x, f)]) = setV (valL l) x (addL (valL l x) f) := by
  funext y
  unfold valL setV
  rw [sumX_app]
  show (if x = y then addL (sumX y (0, 1) l) f else sumX y (0, 1) l) = _
  by_cases e : y = x
  · subst e
    rw [if_pos rfl]
  · rw [if_neg (fun z => e z.symm), if_neg e]
theorem foldN_mem {y : List Nat} : ∀ (l : List It) (N : List (List Nat)), y ∈ l.foldl (fun N it => addN N it.1) N ↔ y ∈ N ∨ ∃ it ∈ l, it.1 = y
  | [], N => by simp
  | it :: l, N => by
    show y ∈ l.foldl _ (addN N it.1) ↔ _
    rw [foldN_mem l, mem_addN]
    constructor
    · rintro ((h | h) | ⟨i, hi, e⟩)
      · exact .inl h
      · exact .inr ⟨it, List.mem_cons_self, h.symm⟩
      · exact .inr ⟨i, List.mem_cons_of_mem _ hi, e⟩
    · rintro (h | ⟨i, hi, e⟩)
      · exact .inl (.inl h)
      · rcases List.mem_cons.mp hi with rfl | hi
        · exact .inl (.inr e.symm)
        · exact .inr ⟨i, hi, e⟩
theorem valL_none {l : List It} {x : List Nat} (h : x ∉ keysL l) : valL l x = (0, 1) :=
  sumX_none x l _ fun it hit e => h ((foldN_mem l _).mpr (.inr ⟨it, hit, e⟩))
theorem foldN_len : ∀ (l : List It) (N : List (List Nat)), (l.foldl (fun N it => addN N it.1) N).length ≤ N.length + l.length
  | [], _ => Nat.le_refl _
  | it :: l, N => by
    have h := foldN_len l (addN N it.1)
    have := addN_len N it.1
    rw [List.length_cons]
    show (l.foldl _ (addN N it.1)).length ≤ _
    omega
theorem keysL_len (l : List It) : (keysL l).length ≤ l.length + 1 := by
  have := foldN_len l [[]]
  rw [List.length_singleton] at this
  show (keysL l).length ≤ _
  unfold keysL
  omega
/-! ### walks over the keys of a dict -/
theorem for_keys {d : Addr} {od : Obj} {kvs : List (Key × V)} {g : TG} {tb : TS} {D : Ends} {σ : L2.St} {H : Hp} (Pv : Nat → L2.St → Hp → Prop) (h0 : Pv 0 σ H) (hf : ∀ i σ H, Pv i σ H → H d = some (.frz od (.dK kvs)))
    (hs : ∀ i k v σ H, kvs[i]? = some (k, v) → Pv i σ H → g (kV k) σ H fun σ2 H2 => tb { nx := Pv (i + 1), rt := D.rt, bk := D.nx, ct := Pv (i + 1) } σ2 H2) (hd : ∀ σ H, Pv kvs.length σ H → D.nx σ H) :
    ∃ W : Nat → Nat → L2.St → Hp → Prop, (∃ m, W 0 m σ H) ∧ ∀ i m σ H, W i m σ H →
      ((Itk d od kvs).stop i H ∧ D.nx σ H) ∨ ((Itk d od kvs).go i H ∧ ∃ N : L2.St → Hp → Prop, (∀ σ' H', N σ' H' → ∃ m', m' < m ∧ W (i + 1) m' σ' H') ∧ ∀ x H', (Itk d od kvs).yld i H x H' → g x σ H' fun σ2 H2 => tb { nx := N, rt := D.rt, bk := D.nx, ct := N } σ2 H2) := by
  refine ⟨fun i m σ H => m = kvs.length - i ∧ i ≤ kvs.length ∧ Pv i σ H, ⟨_, rfl, Nat.zero_le _, h0⟩, ?_⟩
  rintro i m σ H ⟨rfl, hi, p⟩
  by_cases hlt : i < kvs.length
  · refine .inr ⟨⟨hf _ _ _ p, hlt⟩, Pv (i + 1), fun σ' H' p' => ⟨kvs.length - (i + 1), by omega, rfl, hlt, p'⟩, fun y H' q => ?_⟩
    obtain ⟨e, k, v, hc, ev⟩ := q
    subst e ev
    exact hs i k v _ _ hc p
  · have e : i = kvs.length := by omega
    subst e
    exact .inl ⟨⟨hf _ _ _ p, Nat.le_refl _⟩, hd _ _ p⟩
theorem lc_keys {d : Addr} {od : Obj} {kvs : List (Key × V)} {g : TG} {tt : L2.TT} {te : TE} {vs : List Nat} {σ : L2.St} {H1 : Hp} {D : Addr} {Qd : Hp → Prop} (Pv : Nat → Hp → Prop) (h0 : Pv 0 (upd H1 D (.lst []))) (hf : ∀ i H, Pv i H → H d = some (.frz od (.dK kvs)))
    (hs : ∀ i k v H, kvs[i]? = some (k, v) → Pv i H → g (kV k) (wipe σ vs) H fun σ2 H2 => wipe σ2 vs = wipe σ vs ∧ tt σ2 H2 fun b H3 =>
      if b = true then te σ2 H3 fun y H4 => ∃ acc, H4 D = some (.lst acc) ∧ acc.length < sizeLine ∧ Pv (i + 1) (upd H4 D (.lst (acc ++ [y]))) else Pv (i + 1) H3) (hd : ∀ H, Pv kvs.length H → Qd H) :
    ∃ W : Nat → Nat → Hp → Prop, (∃ m, W 0 m (upd H1 D (.lst []))) ∧ ∀ i m H, W i m H →
      ((Itk d od kvs).stop i H ∧ Qd H) ∨ ((Itk d od kvs).go i H ∧ ∃ Nx : Hp → Prop, (∀ H', Nx H' → ∃ m', m' < m ∧ W (i + 1) m' H') ∧ ∀ y H', (Itk d od kvs).yld i H y H' → g y (wipe σ vs) H' fun σ2 H2 => wipe σ2 vs = wipe σ vs ∧ tt σ2 H2 fun b H3 =>
        if b = true then te σ2 H3 fun y H4 => ∃ acc, H4 D = some (.lst acc) ∧ acc.length < sizeLine ∧ Nx (upd H4 D (.lst (acc ++ [y]))) else Nx H3) := by
  refine ⟨fun i m H => m = kvs.length - i ∧ i ≤ kvs.length ∧ Pv i H, ⟨_, rfl, Nat.zero_le _, h0⟩, ?_⟩
  rintro i m H ⟨rfl, hi, p⟩
  by_cases hlt : i < kvs.length
  · refine .inr ⟨⟨hf _ _ p, hlt⟩, Pv (i + 1), fun H' p' => ⟨kvs.length - (i + 1), by omega, rfl, hlt, p'⟩, fun y H' q => ?_⟩
    obtain ⟨e, k, v, hc, ev⟩ := q
    subst e ev
    exact hs i k v _ hc p
  · have e : i = kvs.length := by omega
    subst e
    exact .inl ⟨⟨hf _ _ p, Nat.le_refl _⟩, hd _ p⟩
/-- all but what stands at b -/
def Ex (b : Addr) (H G : Hp) : Prop := ∀ c o, H c = some o → c ≠ b → G c = some o
theorem Ex.sqt {K : PySem.W.Frag} {H G : Hp} {b : Addr} {kvs : List (Key × V)} (h : Ex b H G) (hb : H b = some (.dK kvs)) : Tr K H G := ⟨fun p xs q => by
  rcases q with (q | ⟨o, q⟩) | q
  · exact .inl (.inl (h _ _ q fun e => by rw [e, hb] at q; cases q))
  · exact .inl (.inr ⟨o, h _ _ q fun e => by rw [e, hb] at q; cases q⟩)
  · exact .inr q, fun p xs q => h _ _ q fun e => by rw [e, hb] at q; cases q⟩
theorem Ex.same {H G G' : Hp} {b : Addr} (h : Ex b H G) (s : Same G G') : Ex b H G' := fun c o e n => s _ _ (h c o e n)
theorem Ex.back {H G : Hp} {b : Addr} {u : HO} (h : Ex b H G) (hb : H b = some u) : Same H (upd G b u) := fun c o e => by
  by_cases n : c = b
  · subst n
    rw [hb] at e
    cases e
    exact upd_same
  · rw [upd_ne n]
    exact h c o e n
theorem Ex.upd {H G : Hp} {b d : Addr} {u : HO} (h : Ex b H G) (nd : H d = none) : Ex b H (upd G d u) := fun c o e n => by
  rw [upd_ne (ne_of_none e nd)]
  exact h c o e n
theorem keys_at {kvs : List (Key × V)} {N : List (List Nat)} (h : kvs.map (·.1) = N.map keyOf) {i : Nat} {k : Key} {v : V} (e : kvs[i]? = some (k, v)) : ∃ x, N[i]? = some x ∧ k = keyOf x := by
  have e1 : (kvs.map (·.1))[i]? = some k := by rw [List.getElem?_map, e]; rfl
  rw [h, List.getElem?_map] at e1
  obtain ⟨x, hx, ex⟩ := Option.map_eq_some_iff.mp e1
  exact ⟨x, hx, ex.symm⟩
theorem not_take {N : List (List Nat)} (h : N.Nodup) {i : Nat} {x : List Nat} (e : N[i]? = some x) : x ∉ N.take i := fun m => by
  obtain ⟨j, ej⟩ := List.mem_iff_getElem?.mp m
  have hj := (List.getElem?_eq_some_iff.mp ej).1
  rw [List.length_take] at hj
  rw [List.getElem?_take_of_lt (by omega)] at ej
  obtain ⟨hi, ei⟩ := List.getElem?_eq_some_iff.mp e
  obtain ⟨hj2, ej2⟩ := List.getElem?_eq_some_iff.mp ej
  exact (List.pairwise_iff_getElem.mp h) j i hj2 hi (by omega) (by rw [ei, ej2])
/-! ### a dict comprehension over the keys of a dict -/
theorem dc_keys {d : Addr} {od : Obj} {kvs : List (Key × V)} {g : TG} {tt : L2.TT} {tk tv : TE} {vs : List Nat} {σ : L2.St} {H1 : Hp} {D : Addr} {Qd : Hp → Prop} (Pv : Nat → Hp → Prop) (h0 : Pv 0 (upd H1 D (.dK []))) (hf : ∀ i H, Pv i H → H d = some (.frz od (.dK kvs)))
    (hs : ∀ i k v H, kvs[i]? = some (k, v) → Pv i H → g (kV k) (wipe σ vs) H fun σ2 H2 => wipe σ2 vs = wipe σ vs ∧ tt σ2 H2 fun b H3 =>
      if b = true then tk σ2 H3 fun y H4 => tv σ2 H4 fun z H5 => ∃ ks k, y = kV k ∧ H5 D = some (.dK ks) ∧ ks.length < sizeLine ∧ Pv (i + 1) (upd H5 D (.dK (putK ks k z))) else Pv (i + 1) H3) (hd : ∀ H, Pv kvs.length H → Qd H) :
    ∃ W : Nat → Nat → Hp → Prop, (∃ m, W 0 m (upd H1 D (.dK []))) ∧ ∀ i m H, W i m H →
      ((Itk d od kvs).stop i H ∧ Qd H) ∨ ((Itk d od kvs).go i H ∧ ∃ Nx : Hp → Prop, (∀ H', Nx H' → ∃ m', m' < m ∧ W (i + 1) m' H') ∧ ∀ y H', (Itk d od kvs).yld i H y H' → g y (wipe σ vs) H' fun σ2 H2 => wipe σ2 vs = wipe σ vs ∧ tt σ2 H2 fun b H3 =>
        if b = true then tk σ2 H3 fun y H4 => tv σ2 H4 fun z H5 => ∃ ks k, y = kV k ∧ H5 D = some (.dK ks) ∧ ks.length < sizeLine ∧ Nx (upd H5 D (.dK (putK ks k z))) else Nx H3) := by
  refine ⟨fun i m H => m = kvs.length - i ∧ i ≤ kvs.length ∧ Pv i H, ⟨_, rfl, Nat.zero_le _, h0⟩, ?_⟩
  rintro i m H ⟨rfl, hi, p⟩
  by_cases hlt : i < kvs.length
  · refine .inr ⟨⟨hf _ _ p, hlt⟩, Pv (i + 1), fun H' p' => ⟨kvs.length - (i + 1), by omega, rfl, hlt, p'⟩, fun y H' q => ?_⟩
    obtain ⟨e, k, v, hc, ev⟩ := q
    subst e ev
    exact hs i k v _ hc p
  · have e : i = kvs.length := by omega
    subst e
    exact .inl ⟨⟨hf _ _ p, Nat.le_refl _⟩, hd _ p⟩
theorem op_neDK {X : Cx} {K : PySem.W.Frag} (h : X.K = K) (hu : X.A.units + 64 < cLine) : OpR X (compareOp .NotEq) (rNeD K) := h ▸ op_neD hu
/-! ### the sum of ties -/
abbrev frP (f : FR) : PyData := .tuple [.int f.1, .int f.2]
abbrev tmP (t : List Nat × FR) : PyData := .tuple [.str (SX.S t.1), frP t.2]
abbrev tieP (tl : List (List Nat × FR)) (b : FR) : PyData := .tuple [.tuple (tl.map tmP), frP b]
abbrev Tie := List It × FR
abbrev Sh := Nat × FR
def tieDt (t : Tie) : PyData := tieP t.1 t.2
def papD (e : Sh) : PyData := .tuple [.int (e.1 : Nat), frP e.2]
/-- what a share of a tie brings -/
def itsOf (ties : List Tie) (e : Sh) : List It := match ties[e.1]? with
  | some t => t.1.map fun u => (u.1, mulL u.2 e.2)
  | none => []
def bndOf (ties : List Tie) (e : Sh) : FR := match ties[e.1]? with
  | some t => mulL t.2 e.2
  | none => (0, 1)
def sumIt (ties : List Tie) (pap : List Sh) : List It := pap.flatMap (itsOf ties)
def sumB (ties : List Tie) (pap : List Sh) : List It := pap.map fun e => (([] : List Nat), bndOf ties e)
def lawK (l : List It) : List (List Nat) := l.foldl (fun N it => addN N it.1) []
theorem lawK_snoc (l : List It) (it : It) : lawK (l ++ [it]) = addN (lawK l) it.1 := by
  unfold lawK
  rw [List.foldl_append]
  rfl
theorem lawK_mem {y : List Nat} (l : List It) : y ∈ lawK l ↔ ∃ it ∈ l, it.1 = y := by
  unfold lawK
  rw [foldN_mem]
  exact ⟨fun h => h.resolve_left (fun z => by cases z), .inr⟩
theorem lawK_len (l : List It) : (lawK l).length ≤ l.length := by
  have := foldN_len l []
  unfold lawK
  rw [List.length_nil] at this
  omega
theorem lawV_none {l : List It} {x : List Nat} (h : x ∉ lawK l) : valL l x = (0, 1) :=
  sumX_none x l _ fun it hit e => h ((lawK_mem l).mpr ⟨it, hit, e⟩)
/-- ties and a paper whose sum can be worked out -/
structure SumOk (ties : List Tie) (pap : List Sh) : Prop where
  at_ : ∀ e ∈ pap, e.1 < ties.length
  nf : ∀ e ∈ pap, Nf e.2 ∧ Bn 1000 e.2
  tl : ∀ t ∈ ties, (∀ u ∈ t.1, Nf u.2 ∧ Bn 1000 u.2) ∧ Nf t.2 ∧ Bn 1000 t.2 ∧ t.1.length ≤ 2
  w : wIt (sumIt ties pap) ≤ 1900
  wb : wIt (sumB ties pap) ≤ 1900
  ln : pap.length ≤ 100
theorem dt_fr {z : Addr} {H : Hp} {v : V} {f : FR} (h : Dt z H v (frP f)) : ∃ p, v = .ref p ∧ H p = some (.tup [.int f.1, .int f.2]) := by
  match v, h with
  | _, .tup hp (.cons (.int _ _) (.cons (.int _ _) .nil)) => exact ⟨_, rfl, hp⟩
theorem mul_nf {f g : FR} (hf : Nf f) (hg : Nf g) : Nf (mulL f g) := nf_low (Int.mul_ne_zero (by have := hf.1; omega) (by have := hg.1; omega))
theorem wIt_app (a b : List It) : wIt (a ++ b) = wIt a + wIt b := by
  unfold wIt
  rw [List.map_append, List.sum_append]
theorem Bn.bw {f : FR} : Bn (bw f) f := bw_bn f
theorem wIt_sub {l m : List It} (h : l.Sublist m) : wIt l ≤ wIt m := by
  induction h with
  | slnil => exact Nat.le_refl _
  | cons a _ ih =>
    have : ∀ (a : It) (l : List It), wIt (a :: l) = bw a.2 + 1 + wIt l := fun a l => by
      unfold wIt
      rw [List.map_cons, List.sum_cons]
    rw [this]
    omega
  | cons_cons a _ ih =>
    have : ∀ (a : It) (l : List It), wIt (a :: l) = bw a.2 + 1 + wIt l := fun a l => by
      unfold wIt
      rw [List.map_cons, List.sum_cons]
    rw [this, this]
    omega
theorem sumIt_step {ties : List Tie} {pap : List Sh} {i : Nat} {e : Sh} (h : pap[i]? = some e) : sumIt ties (pap.take (i + 1)) = sumIt ties (pap.take i) ++ itsOf ties e := by
  unfold sumIt
  rw [List.take_add_one, h, List.flatMap_append]
  show _ ++ List.flatMap (itsOf ties) [e] = _
  rw [List.flatMap_cons, List.flatMap_nil, List.append_nil]
theorem sumB_step {ties : List Tie} {pap : List Sh} {i : Nat} {e : Sh} (h : pap[i]? = some e) : sumB ties (pap.take (i + 1)) = sumB ties (pap.take i) ++ [([], bndOf ties e)] := by
  unfold sumB
  rw [List.take_add_one, h, List.map_append]
  rfl
theorem sumIt_sub (ties : List Tie) (pap : List Sh) (i : Nat) : (sumIt ties (pap.take i)).Sublist (sumIt ties pap) := by
  conv => rhs; rw [← List.take_append_drop i pap]
  unfold sumIt
  rw [List.flatMap_append]
  exact List.sublist_append_left _ _
theorem sumB_sub (ties : List Tie) (pap : List Sh) (i : Nat) : (sumB ties (pap.take i)).Sublist (sumB ties pap) := by
  conv => rhs; rw [← List.take_append_drop i pap]
  unfold sumB
  rw [List.map_append]
  exact List.sublist_append_left _ _
theorem its_nf {ties : List Tie} {pap : List Sh} (ok : SumOk ties pap) : (∀ it ∈ sumIt ties pap, Nf it.2) ∧ ∀ it ∈ sumB ties pap, Nf it.2 := by
  constructor
  · intro it hit
    obtain ⟨e, he, hit⟩ := List.mem_flatMap.mp hit
    unfold itsOf at hit
    split at hit
    · rename_i t ht
      obtain ⟨u, hu, rfl⟩ := List.mem_map.mp hit
      exact mul_nf ((ok.tl t (List.mem_of_getElem? ht)).1 u hu).1 (ok.nf e he).1
    · cases hit
  · intro it hit
    obtain ⟨e, he, rfl⟩ := List.mem_map.mp hit
    unfold bndOf
    split
    · rename_i t ht
      exact mul_nf (ok.tl t (List.mem_of_getElem? ht)).2.1 (ok.nf e he).1
    · exact nf_01
theorem bw_in {l : List It} {it : It} (h : it ∈ l) : bw it.2 + 1 ≤ wIt l := by
  have := wIt_sub (List.singleton_sublist.mpr h)
  have e : wIt [it] = bw it.2 + 1 := by
    unfold wIt
    rw [List.map_cons, List.sum_cons]
    rfl
  omega
def nzV (val : List Nat → FR) (x : List Nat) : Bool := decide (val x ≠ (0, 1))
def fK (val : List Nat → FR) (e : Key × V) : Bool := match e.1 with
  | .inr s => nzV val s.cps.toList
  | .inl _ => false
theorem fK_key (val : List Nat → FR) (x : List Nat) (v : V) : fK val (keyOf x, v) = nzV val x := by
  show nzV val (SX.S x).cps.toList = _
  rw [S_list]
theorem valV_filter {f : Key × V → Bool} {k : Key} (hf : ∀ v, f (k, v) = true) : ∀ kvs : List (Key × V), valV (kvs.filter f) k = valV kvs k
  | [] => rfl
  | (k', v) :: r => by
    have ih := valV_filter hf r
    rw [List.filter_cons]
    by_cases e : k' = k
    · subst e
      rw [if_pos (hf v), valV_pos rfl, valV_pos rfl]
    · rw [valV_neg (p := (k', v)) e]
      split
      · rw [valV_neg (p := (k', v)) e]
        exact ih
      · exact ih
theorem RDk.filter {K : PySem.W.Frag} {H : Hp} {kvs : List (Key × V)} {N : List (List Nat)} {val : List Nat → FR} (h : RDk K H kvs N val) : RDk K H (kvs.filter (fK val)) (N.filter (nzV val)) val := by
  refine ⟨?_, h.2.1.filter _, fun x hx => ?_⟩
  · have e : ∀ (kvs : List (Key × V)) (N : List (List Nat)), kvs.map (·.1) = N.map keyOf → (kvs.filter (fK val)).map (·.1) = (N.filter (nzV val)).map keyOf := fun kvs => by
      induction kvs with
      | nil =>
        intro N e
        cases N with
        | nil => rfl
        | cons x N => cases e
      | cons p r ih =>
        intro N e
        cases N with
        | nil => cases e
        | cons x N =>
          rw [List.map_cons, List.map_cons] at e
          injection e with e1 e2
          obtain ⟨k, v⟩ := p
          have e1 : k = keyOf x := e1
          subst e1
          rw [List.filter_cons, List.filter_cons, fK_key]
          split
          · rw [List.map_cons, List.map_cons, ih N e2]
          · exact ih N e2
    exact e kvs N h.1
  · obtain ⟨h1, h2⟩ := List.mem_filter.mp hx
    obtain ⟨p, e, f⟩ := h.2.2 x h1
    exact ⟨p, by rw [valV_filter (fun v => by rw [fK_key]; exact h2)]; exact e, f⟩
theorem eqv_pair (a b c d : Int) : PyData.eqv (.tuple [.int a, .int b]) (.tuple [.int c, .int d]) = decide ((a, b) = (c, d)) := by
  show ((a == c) && ((b == d) && true)) = _
  rw [Bool.and_true, Bool.eq_iff_iff, Bool.and_eq_true, beq_iff_eq, beq_iff_eq, decide_eq_true_eq, Prod.mk.injEq]
/-! ### programs and their runs -/
abbrev Nm := List Nat
structure Fm where
  rate : FR
  name : Nm
  num : FR
inductive Pg where
  | nil
  | set (x : Nm) (f g : Fm) (r : Pg)
  | any (x : Nm) (r : Pg)
  | chk (ts : List Tie) (r : Pg)
  | eit (p q r : Pg)
  | rep (n : Nat) (p r : Pg)
def nxF : List FR → FR
  | [] => (0, 1)
  | x :: _ => x
def shr (c : FR) : FR := if c.1 = 0 then (0, 1) else lowF c.2 (c.2 + (c.1.natAbs : Nat))
def fvl (f : Fm) (v : Nm → FR) : FR := if f.rate = (0, 1) then f.num else addL (mulL f.rate (v f.name)) f.num
def totF (val : Nm → FR) (acc : FR) : List It → FR
  | [] => acc
  | t :: r => totF val (addL acc (mulL t.2 (val t.1))) r
def ltQ (f g : FR) : Bool := decide (f.1 * g.2 < g.1 * f.2)
def kpt (v : Nm → FR) (t : Tie) : Bool := !ltQ t.2 (totF v (0, 1) t.1)
def itr {α : Type} (f : α → Option α) : Nat → α → Option α
  | 0, s => some s
  | n + 1, s => (f s).bind (itr f n)
abbrev Sta := (Nm → FR) × List FR
def setS (x : Nm) (f g : Fm) (s : Sta) : Option Sta := if ltQ (fvl g s.1) (fvl f s.1) = true then none
  else some (setV s.1 x (addL (fvl f s.1) (mulL (shr (nxF s.2)) (subL (fvl g s.1) (fvl f s.1)))), s.2.tail)
def go : Pg → Sta → Option Sta
  | .nil, s => some s
  | .set x f g r, s => (setS x f g s).bind (go r)
  | .any x r, s => go r (setV s.1 x (nxF s.2), s.2.tail)
  | .chk ts r, s => if ts.all (kpt s.1) = true then go r s else none
  | .eit p q r, s => (if (nxF s.2).1 = 0 then go p (s.1, s.2.tail) else go q (s.1, s.2.tail)).bind (go r)
  | .rep n p r, s => (itr (go p) n s).bind (go r)
def one : Pg → Pg
  | .nil => .nil
  | .set x f g _ => .set x f g .nil
  | .any x _ => .any x .nil
  | .chk ts _ => .chk ts .nil
  | .eit p q _ => .eit p q .nil
  | .rep n p _ => .rep n p .nil
def rst : Pg → Pg
  | .nil => .nil
  | .set _ _ _ r => r
  | .any _ r => r
  | .chk _ r => r
  | .eit _ _ r => r
  | .rep _ _ r => r
theorem bind_go_nil (o : Option Sta) : o.bind (go .nil) = o := by cases o <;> rfl
theorem go_one (p : Pg) (s : Sta) : go p s = (go (one p) s).bind (go (rst p)) := by
  cases p with
  | nil => rfl
  | set x f g r =>
    show _ = ((setS x f g s).bind (go .nil)).bind (go r)
    rw [bind_go_nil]
    rfl
  | any x r => rfl
  | chk ts r =>
    show (if ts.all (kpt s.1) = true then go r s else none) = (if ts.all (kpt s.1) = true then go .nil s else none).bind (go r)
    split <;> rfl
  | eit p q r =>
    show _ = ((if (nxF s.2).1 = 0 then go p (s.1, s.2.tail) else go q (s.1, s.2.tail)).bind (go .nil)).bind (go r)
    rw [bind_go_nil]
    rfl
  | rep n p r =>
    show _ = ((itr (go p) n s).bind (go .nil)).bind (go r)
    rw [bind_go_nil]
    rfl
/-- one program behind another -/
def appP : Pg → Pg → Pg
  | .nil, b => b
  | .set x f g r, b => .set x f g (appP r b)
  | .any x r, b => .any x (appP r b)
  | .chk ts r, b => .chk ts (appP r b)
  | .eit p q r, b => .eit p q (appP r b)
  | .rep n p r, b => .rep n p (appP r b)
theorem go_app : ∀ (p b : Pg) (s : Sta), go (appP p b) s = (go p s).bind (go b)
  | .nil, _, _ => rfl
  | .set x f g r, b, s => by
    show (setS x f g s).bind (go (appP r b)) = ((setS x f g s).bind (go r)).bind (go b)
    cases setS x f g s with
    | none => rfl
    | some t => exact go_app r b t
  | .any x r, b, s => go_app r b _
  | .chk ts r, b, s => by
    show (if _ then go (appP r b) s else none) = (if _ then go r s else none).bind (go b)
    split
    · exact go_app r b s
    · rfl
  | .eit p q r, b, s => by
    show (if (nxF s.2).1 = 0 then go p (s.1, s.2.tail) else go q (s.1, s.2.tail)).bind (go (appP r b)) = ((if (nxF s.2).1 = 0 then go p (s.1, s.2.tail) else go q (s.1, s.2.tail)).bind (go r)).bind (go b)
    cases (if (nxF s.2).1 = 0 then go p (s.1, s.2.tail) else go q (s.1, s.2.tail)) with
    | none => rfl
    | some t => exact go_app r b t
  | .rep n p r, b, s => by
    show (itr (go p) n s).bind (go (appP r b)) = ((itr (go p) n s).bind (go r)).bind (go b)
    cases itr (go p) n s with
    | none => rfl
    | some t => exact go_app r b t
def repP (p : Pg) : Nat → Pg
  | 0 => .nil
  | n + 1 => appP p (repP p n)
theorem go_rep (p : Pg) : ∀ (n : Nat) (s : Sta), go (repP p n) s = itr (go p) n s
  | 0, _ => rfl
  | n + 1, s => by
    show go (appP p (repP p n)) s = (go p s).bind (itr (go p) n)
    rw [go_app]
    cases go p s with
    | none => rfl
    | some t => exact go_rep p n t
theorem itr_snoc {α : Type} (f : α → Option α) : ∀ (n : Nat) (s : α), itr f (n + 1) s = (itr f n s).bind f
  | 0, s => by
    show (f s).bind (itr f 0) = f s
    cases f s <;> rfl
  | n + 1, s => by
    show (f s).bind (itr f (n + 1)) = ((f s).bind (itr f n)).bind f
    cases f s with
    | none => rfl
    | some t => exact itr_snoc f n t
def dep : Pg → Nat
  | .nil => 0
  | .set _ _ _ r => dep r
  | .any _ r => dep r
  | .chk _ r => dep r
  | .eit p q r => max (max (dep p + 1) (dep q + 1)) (dep r)
  | .rep _ p r => max (dep p + 1) (dep r)
def cnt : Pg → Nat
  | .nil => 0
  | .set _ _ _ r => 1 + cnt r
  | .any _ r => cnt r
  | .chk _ r => cnt r
  | .eit p q r => max (cnt p) (cnt q) + cnt r
  | .rep n p r => n * cnt p + cnt r
def lnP : Pg → Nat
  | .nil => 0
  | .set _ _ _ r => 1 + lnP r
  | .any _ r => 1 + lnP r
  | .chk _ r => 1 + lnP r
  | .eit _ _ r => 1 + lnP r
  | .rep _ _ r => 1 + lnP r
theorem dep_app : ∀ p b : Pg, dep (appP p b) = max (dep p) (dep b)
  | .nil, b => by show dep b = max 0 (dep b); omega
  | .set _ _ _ r, b => dep_app r b
  | .any _ r, b => dep_app r b
  | .chk _ r, b => dep_app r b
  | .eit p q r, b => by
    show max (max (dep p + 1) (dep q + 1)) (dep (appP r b)) = max (max (max (dep p + 1) (dep q + 1)) (dep r)) (dep b)
    rw [dep_app r b]
    omega
  | .rep _ p r, b => by
    show max (dep p + 1) (dep (appP r b)) = max (max (dep p + 1) (dep r)) (dep b)
    rw [dep_app r b]
    omega
theorem cnt_app : ∀ p b : Pg, cnt (appP p b) = cnt p + cnt b
  | .nil, b => by show cnt b = 0 + cnt b; omega
  | .set _ _ _ r, b => by
    show 1 + cnt (appP r b) = 1 + cnt r + cnt b
    rw [cnt_app r b]
    omega
  | .any _ r, b => cnt_app r b
  | .chk _ r, b => cnt_app r b
  | .eit p q r, b => by
    show max (cnt p) (cnt q) + cnt (appP r b) = max (cnt p) (cnt q) + cnt r + cnt b
    rw [cnt_app r b]
    omega
  | .rep n p r, b => by
    show n * cnt p + cnt (appP r b) = n * cnt p + cnt r + cnt b
    rw [cnt_app r b]
    omega
theorem dep_rep (p : Pg) : ∀ n, dep (repP p n) ≤ dep p
  | 0 => Nat.zero_le _
  | n + 1 => by
    show dep (appP p (repP p n)) ≤ dep p
    rw [dep_app]
    have := dep_rep p n
    omega
theorem cnt_rep (p : Pg) : ∀ n, cnt (repP p n) = n * cnt p
  | 0 => by show 0 = 0 * cnt p; omega
  | n + 1 => by
    show cnt (appP p (repP p n)) = (n + 1) * cnt p
    rw [cnt_app, cnt_rep p n, Nat.succ_mul]
    omega
/-! ### what a program may be made of -/
structure FmOk (ws : List Nm) (f : Fm) : Prop where
  rt : f.rate ∈ ([(1, 1), (-1, 1), (2, 1), (1, 2), (0, 1)] : List FR)
  nm : f.rate ≠ (0, 1) → f.name ∈ ws
  z : f.rate = (0, 1) ↔ f.name = []
  nf : Nf f.num
  dv : f.num.2 ∣ 2
  ab : (f.num.1.natAbs : Int) ≤ 4 * f.num.2
structure TkOk (ws : List Nm) (t : Tie) : Prop where
  ln : t.1.length ≤ 2
  nm : ∀ u ∈ t.1, u.1 ∈ ws
  nf : ∀ u ∈ t.1, Nf u.2 ∧ Bn 40 u.2
  bf : Nf t.2 ∧ Bn 40 t.2
def PgOk (ws : List Nm) : Pg → Prop
  | .nil => True
  | .set x f g r => (x ∈ ws ∧ FmOk ws f ∧ FmOk ws g) ∧ PgOk ws r
  | .any x r => x ∈ ws ∧ PgOk ws r
  | .chk ts r => (ts.length ≤ 2 ∧ ∀ t ∈ ts, TkOk ws t) ∧ PgOk ws r
  | .eit p q r => (PgOk ws p ∧ PgOk ws q) ∧ PgOk ws r
  | .rep n p r => (n ≤ 4 ∧ lnP p ≤ 10 ∧ PgOk ws p) ∧ PgOk ws r
theorem ok_app {ws : List Nm} : ∀ {p b : Pg}, PgOk ws p → PgOk ws b → PgOk ws (appP p b)
  | .nil, _, _, h => h
  | .set _ _ _ _, _, h, k => ⟨h.1, ok_app h.2 k⟩
  | .any _ _, _, h, k => ⟨h.1, ok_app h.2 k⟩
  | .chk _ _, _, h, k => ⟨h.1, ok_app h.2 k⟩
  | .eit _ _ _, _, h, k => ⟨h.1, ok_app h.2 k⟩
  | .rep _ _ _, _, h, k => ⟨h.1, ok_app h.2 k⟩
theorem ok_rep {ws : List Nm} {p : Pg} (h : PgOk ws p) : ∀ n, PgOk ws (repP p n)
  | 0 => trivial
  | n + 1 => ok_app h (ok_rep h n)
/-! ### how great the numbers get -/
def Dm (d m : Int) (f : FR) : Prop := Nf f ∧ f.2 ∣ d ∧ (f.1.natAbs : Int) ≤ m * f.2
theorem Dm.mono {d m d' m' : Int} {f : FR} (h : Dm d m f) (hd : d ∣ d') (hm : m ≤ m') : Dm d' m' f :=
  ⟨h.1, Int.dvd_trans h.2.1 hd, Int.le_trans h.2.2 (Int.mul_le_mul_of_nonneg_right hm (Int.le_of_lt h.1.1))⟩
theorem Dm.neg {d m : Int} {f : FR} (h : Dm d m f) : Dm d m (negF f) := ⟨h.1.neg, h.2.1, by show ((-f.1).natAbs : Int) ≤ m * f.2; rw [Int.natAbs_neg]; exact h.2.2⟩
theorem den_dvd {u v D N : Int} (hv : v ≠ 0) (h : u * D = N * v) : lowD u v ∣ D := by
  have e := lowT_self (u := u) hv
  have g := low_gcd (u := u) hv
  have h2 : lowT u v * D = N * lowD u v := by
    refine Int.eq_of_mul_eq_mul_right hv ?_
    calc lowT u v * D * v = lowT u v * v * D := by rw [Int.mul_right_comm]
      _ = u * lowD u v * D := by rw [e]
      _ = u * D * lowD u v := by rw [Int.mul_right_comm]
      _ = N * v * lowD u v := by rw [h]
      _ = N * lowD u v * v := by rw [Int.mul_right_comm]
  have dv : lowD u v ∣ lowT u v * D := ⟨N, by rw [h2, Int.mul_comm]⟩
  have cp : Nat.Coprime (lowD u v).natAbs (lowT u v).natAbs := by
    unfold Nat.Coprime
    rw [Nat.gcd_comm]
    exact g
  have dn := Int.natAbs_dvd_natAbs.mpr dv
  rw [Int.natAbs_mul] at dn
  exact Int.natAbs_dvd_natAbs.mp (cp.dvd_of_dvd_mul_left dn)
theorem abs_low {u v m : Int} (hv : 0 < v) (h : (u.natAbs : Int) ≤ m * v) : ((lowT u v).natAbs : Int) ≤ m * lowD u v := by
  have e := lowT_self (u := u) (show v ≠ 0 by omega)
  have p := lowD_pos (u := u) (show v ≠ 0 by omega)
  have e2 : ((lowT u v).natAbs : Int) * v = (u.natAbs : Int) * lowD u v := by
    have := congrArg (fun z : Int => (z.natAbs : Int)) e
    simp only [Int.natAbs_mul, Int.natCast_mul] at this
    rw [show ((v.natAbs : Nat) : Int) = v by omega, show (((lowD u v).natAbs : Nat) : Int) = lowD u v by omega] at this
    exact this
  refine Int.le_of_mul_le_mul_right (a := v) ?_ hv
  rw [e2]
  calc (u.natAbs : Int) * lowD u v ≤ m * v * lowD u v := Int.mul_le_mul_of_nonneg_right h (by omega)
    _ = m * lowD u v * v := by rw [Int.mul_right_comm]
theorem Dm.add {d m n : Int} {f g : FR} (hf : Dm d m f) (hg : Dm d n g) : Dm d (m + n) (addL f g) := by
  have pf := hf.1.1
  have pg := hg.1.1
  have pv : 0 < f.2 * g.2 := Int.mul_pos pf pg
  refine ⟨addL_nf pf pg, ?_, ?_⟩
  · obtain ⟨a, ha⟩ := hf.2.1
    obtain ⟨b, hb⟩ := hg.2.1
    refine den_dvd (N := f.1 * a + g.1 * b) (by omega) ?_
    have e1 : f.1 * g.2 * d = f.1 * a * (f.2 * g.2) := by rw [ha]; simp only [Int.mul_assoc, Int.mul_comm, Int.mul_left_comm]
    have e2 : g.1 * f.2 * d = g.1 * b * (f.2 * g.2) := by rw [hb]; simp only [Int.mul_assoc, Int.mul_comm, Int.mul_left_comm]
    rw [Int.add_mul, Int.add_mul, e1, e2]
  · refine abs_low pv ?_
    have h1 : ((f.1 * g.2).natAbs : Int) ≤ m * (f.2 * g.2) := by
      rw [Int.natAbs_mul, Int.natCast_mul, show ((g.2.natAbs : Nat) : Int) = g.2 by omega, ← Int.mul_assoc]
      exact Int.mul_le_mul_of_nonneg_right hf.2.2 (by omega)
    have h2 : ((g.1 * f.2).natAbs : Int) ≤ n * (f.2 * g.2) := by
      rw [Int.natAbs_mul, Int.natCast_mul, show ((f.2.natAbs : Nat) : Int) = f.2 by omega, Int.mul_comm f.2 g.2, ← Int.mul_assoc]
      exact Int.mul_le_mul_of_nonneg_right hg.2.2 (by omega)
    have := Int.natAbs_add_le (f.1 * g.2) (g.1 * f.2)
    rw [Int.add_mul]
    omega
theorem Dm.mul {d m d' n : Int} {f g : FR} (hn : 0 ≤ n) (hm : 0 ≤ m) (hf : Dm d m f) (hg : Dm d' n g) : Dm (d * d') (m * n) (mulL f g) := by
  have pf := hf.1.1
  have pg := hg.1.1
  have pv : 0 < f.2 * g.2 := Int.mul_pos pf pg
  refine ⟨nf_low (by omega), ?_, ?_⟩
  · refine Int.dvd_trans (den_dvd (N := f.1 * g.1) (by omega) rfl) (Int.mul_dvd_mul hf.2.1 hg.2.1)
  · refine abs_low pv ?_
    rw [Int.natAbs_mul, Int.natCast_mul]
    calc (f.1.natAbs : Int) * (g.1.natAbs : Int) ≤ m * f.2 * (n * g.2) := Int.mul_le_mul hf.2.2 hg.2.2 (by omega) (Int.mul_nonneg hm (by omega))
      _ = m * n * (f.2 * g.2) := by simp only [Int.mul_assoc, Int.mul_comm, Int.mul_left_comm]
theorem sub_neg {f g : FR} : subL f g = addL f (negF g) := by
  unfold subL addL negF
  dsimp only
  rw [Int.neg_mul, Int.sub_eq_add_neg]
/-- a choice -/
def CH : List FR := [(0, 1), (1, 1), (-1, 2), (3, 1), (2, 3), (5, 1), (1, 2)]
theorem ch_dm : ∀ c ∈ CH, Dm 6 16 c ∧ Dm 60 1 (shr c) ∧ Bn 10 c ∧ Bn 10 (shr c) ∧ 0 < c.2 + (c.1.natAbs : Nat) := by
  intro c hc
  simp only [CH, List.mem_cons, List.not_mem_nil, or_false] at hc
  rcases hc with rfl | rfl | rfl | rfl | rfl | rfl | rfl <;> (unfold Dm Nf Bn; decide +kernel)
theorem nx_ch {c : List FR} (h : ∀ x ∈ c, x ∈ CH) : nxF c ∈ CH := by
  cases c with
  | nil => exact List.mem_cons_self
  | cons x r => exact h x List.mem_cons_self
def DL (k : Nat) : Int := 6 * 240 ^ k
def ML (k : Nat) : Int := 16 * 8 ^ k
def Lv (k : Nat) (f : FR) : Prop := Dm (DL k) (ML k) f
theorem DL_pos (k : Nat) : 0 < DL k := Int.mul_pos (by decide) (Int.pow_pos (by decide))
theorem ML_ge (k : Nat) : 16 ≤ ML k := by
  unfold ML
  have : (0 : Int) < 8 ^ k := Int.pow_pos (by decide)
  omega
theorem DL_succ (k : Nat) : DL (k + 1) = 240 * DL k := by
  unfold DL
  rw [Int.pow_succ]
  omega
theorem ML_succ (k : Nat) : ML (k + 1) = 8 * ML k := by
  unfold ML
  rw [Int.pow_succ]
  omega
theorem Lv.up {k : Nat} {f : FR} (h : Lv k f) : Lv (k + 1) f := by
  refine Dm.mono h ?_ ?_
  · rw [DL_succ]
    exact Int.dvd_mul_left _ _
  · rw [ML_succ]
    have := ML_ge k
    omega
theorem Lv.mono {k j : Nat} {f : FR} (h : Lv k f) (hk : k ≤ j) : Lv j f := by
  induction hk with
  | refl => exact h
  | step _ ih => exact ih.up
theorem ch_lv {c : FR} (h : c ∈ CH) (k : Nat) : Lv k c := by
  have h0 : Lv 0 c := (ch_dm c h).1
  exact h0.mono (Nat.zero_le k)
def Vl (k : Nat) (ws : List Nm) (v : Nm → FR) : Prop := ∀ x ∈ ws, Lv k (v x)
theorem rt_dm : ∀ r ∈ ([(1, 1), (-1, 1), (2, 1), (1, 2), (0, 1)] : List FR), Dm 2 2 r ∧ Bn 3 r := by
  intro c hc
  simp only [List.mem_cons, List.not_mem_nil, or_false] at hc
  rcases hc with rfl | rfl | rfl | rfl | rfl <;> (unfold Dm Nf Bn; decide +kernel)
theorem FmOk.dm {ws : List Nm} {f : Fm} (h : FmOk ws f) : Dm 2 4 f.num := ⟨h.nf, h.dv, h.ab⟩
theorem fvl_dm {ws : List Nm} {f : Fm} {v : Nm → FR} {k : Nat} (h : FmOk ws f) (hv : Vl k ws v) : Dm (2 * DL k) (2 * ML k + 4) (fvl f v) := by
  have d2 : (2 : Int) ∣ 2 * DL k := Int.dvd_mul_right _ _
  have mg := ML_ge k
  unfold fvl
  split
  · exact h.dm.mono d2 (by omega)
  · rename_i ne
    exact ((rt_dm _ h.rt).1.mul (by omega) (by decide) (hv _ (h.nm ne))).add (h.dm.mono d2 (Int.le_refl _))
theorem shr_dm {c : FR} (h : c ∈ CH) : Dm 60 1 (shr c) := (ch_dm c h).2.1
theorem set_dm {ws : List Nm} {f g : Fm} {v : Nm → FR} {k : Nat} {c : FR} (hf : FmOk ws f) (hg : FmOk ws g) (hv : Vl k ws v) (hc : c ∈ CH) :
    Dm (2 * DL k) (4 * ML k + 8) (subL (fvl g v) (fvl f v)) ∧ Dm (60 * (2 * DL k)) (1 * (4 * ML k + 8)) (mulL (shr c) (subL (fvl g v) (fvl f v))) ∧ Lv (k + 1) (addL (fvl f v) (mulL (shr c) (subL (fvl g v) (fvl f v)))) := by
  have mg := ML_ge k
  have a := fvl_dm hf hv
  have b := fvl_dm hg hv
  have s : Dm (2 * DL k) (4 * ML k + 8) (subL (fvl g v) (fvl f v)) := by
    rw [sub_neg]
    exact (b.add a.neg).mono (Int.dvd_refl _) (by omega)
  have m := (shr_dm hc).mul (by omega) (by decide) s
  refine ⟨s, m, ?_⟩
  have t := (a.mono (d' := 60 * (2 * DL k)) (Int.dvd_mul_left _ _) (Int.le_refl _)).add m
  refine t.mono ?_ ?_
  · rw [DL_succ]
    exact ⟨2, by omega⟩
  · rw [ML_succ]
    omega
theorem setV_lv {k : Nat} {ws : List Nm} {v : Nm → FR} {x : Nm} {f : FR} (h : Vl k ws v) (hf : Lv k f) : Vl k ws (setV v x f) := fun y hy => by
  unfold setV
  split
  · exact hf
  · exact h y hy
theorem Vl.mono {k j : Nat} {ws : List Nm} {v : Nm → FR} (h : Vl k ws v) (hk : k ≤ j) : Vl j ws v := fun x hx => (h x hx).mono hk
theorem tl_ch {c : List FR} (h : ∀ x ∈ c, x ∈ CH) : ∀ x ∈ c.tail, x ∈ CH := fun x hx => h x (List.mem_of_mem_tail hx)
theorem itr_lv {ws : List Nm} {f : Sta → Option Sta} {n : Nat} (hf : ∀ (k : Nat) (s t : Sta), f s = some t → Vl k ws s.1 → (∀ x ∈ s.2, x ∈ CH) → Vl (k + n) ws t.1 ∧ ∀ x ∈ t.2, x ∈ CH) :
    ∀ (m k : Nat) (s t : Sta), itr f m s = some t → Vl k ws s.1 → (∀ x ∈ s.2, x ∈ CH) → Vl (k + m * n) ws t.1 ∧ ∀ x ∈ t.2, x ∈ CH
  | 0, k, s, t, h, hv, hc => by
    cases h
    exact ⟨hv.mono (by omega), hc⟩
  | m + 1, k, s, t, h, hv, hc => by
    have h : (f s).bind (itr f m) = some t := h
    cases e : f s with
    | none =>
      rw [e] at h
      cases h
    | some u =>
      rw [e] at h
      obtain ⟨a, b⟩ := hf k s u e hv hc
      obtain ⟨c, d⟩ := itr_lv hf m (k + n) u t h a b
      exact ⟨c.mono (by rw [Nat.succ_mul]; omega), d⟩
theorem go_lv {ws : List Nm} : ∀ (p : Pg), PgOk ws p → ∀ (k : Nat) (s t : Sta), go p s = some t → Vl k ws s.1 → (∀ x ∈ s.2, x ∈ CH) → Vl (k + cnt p) ws t.1 ∧ ∀ x ∈ t.2, x ∈ CH
  | .nil, _, k, s, t, h, hv, hc => by
    cases h
    exact ⟨hv, hc⟩
  | .set x f g r, ok, k, s, t, h, hv, hc => by
    have h : (setS x f g s).bind (go r) = some t := h
    unfold setS at h
    split at h
    · cases h
    · obtain ⟨a, b⟩ := go_lv r ok.2 (k + 1) _ t h (setV_lv (hv.mono (by omega)) (set_dm ok.1.2.1 ok.1.2.2 hv (nx_ch hc)).2.2) (tl_ch hc)
      exact ⟨a.mono (by show k + 1 + cnt r ≤ k + (1 + cnt r); omega), b⟩
  | .any x r, ok, k, s, t, h, hv, hc => go_lv r ok.2 k _ t h (setV_lv hv (ch_lv (nx_ch hc) k)) (tl_ch hc)
  | .chk ts r, ok, k, s, t, h, hv, hc => by
    have h : (if ts.all (kpt s.1) = true then go r s else none) = some t := h
    split at h
    · exact go_lv r ok.2 k s t h hv hc
    · cases h
  | .eit p q r, ok, k, s, t, h, hv, hc => by
    have h : (if (nxF s.2).1 = 0 then go p (s.1, s.2.tail) else go q (s.1, s.2.tail)).bind (go r) = some t := h
    split at h
    · cases e : go p (s.1, s.2.tail) with
      | none =>
        rw [e] at h
        cases h
      | some u =>
        rw [e] at h
        obtain ⟨a, b⟩ := go_lv p ok.1.1 k _ u e hv (tl_ch hc)
        obtain ⟨c, d⟩ := go_lv r ok.2 _ u t h a b
        exact ⟨c.mono (by show k + cnt p + cnt r ≤ k + (max (cnt p) (cnt q) + cnt r); omega), d⟩
    · cases e : go q (s.1, s.2.tail) with
      | none =>
        rw [e] at h
        cases h
      | some u =>
        rw [e] at h
        obtain ⟨a, b⟩ := go_lv q ok.1.2 k _ u e hv (tl_ch hc)
        obtain ⟨c, d⟩ := go_lv r ok.2 _ u t h a b
        exact ⟨c.mono (by show k + cnt q + cnt r ≤ k + (max (cnt p) (cnt q) + cnt r); omega), d⟩
  | .rep n p r, ok, k, s, t, h, hv, hc => by
    have h : (itr (go p) n s).bind (go r) = some t := h
    cases e : itr (go p) n s with
    | none =>
      rw [e] at h
      cases h
    | some u =>
      rw [e] at h
      obtain ⟨a, b⟩ := itr_lv (fun k s t => go_lv p ok.1.2.2 k s t) n k s u e hv hc
      obtain ⟨c, d⟩ := go_lv r ok.2 _ u t h a b
      exact ⟨c.mono (by show k + n * cnt p + cnt r ≤ k + (n * cnt p + cnt r); omega), d⟩
theorem pow_lt_two (k : Nat) : (240 : Nat) ^ k ≤ 2 ^ (8 * k) := by
  rw [Nat.pow_mul]
  exact Nat.pow_le_pow_left (by decide) k
theorem Dm.bn {c e : Int} {k a : Nat} {f : FR} (hk : k ≤ 41) (hc : c ≤ 120) (h : Dm (c * DL k) (e) f) (he : e ≤ 6 * ML k + 12) (ha : 24 + 11 * k ≤ a) (hc0 : 0 < c) : Bn a f := by
  have p := h.1.1
  have d1 : f.2 ≤ c * DL k := Int.le_of_dvd (Int.mul_pos hc0 (DL_pos k)) h.2.1
  have d2 : c * DL k ≤ 120 * DL k := Int.mul_le_mul_of_nonneg_right hc (Int.le_of_lt (DL_pos k))
  have d3 : (120 : Int) * DL k = ((720 * 240 ^ k : Nat) : Int) := by
    have e : ((240 ^ k : Nat) : Int) = 240 ^ k := by
      rw [Int.natCast_pow]
      rfl
    unfold DL
    rw [Int.natCast_mul, e]
    omega
  have f2 : f.2.natAbs ≤ 720 * 240 ^ k := by omega
  have g2 : (720 * 240 ^ k : Nat) < 2 ^ (10 + 8 * k) := by
    rw [Nat.pow_add]
    have := pow_lt_two k
    have : 0 < 2 ^ (8 * k) := Nat.two_pow_pos _
    omega
  have m1 : e ≤ ((108 * 8 ^ k : Nat) : Int) := by
    have : (6 * ML k + 12 : Int) ≤ ((108 * 8 ^ k : Nat) : Int) := by
      have e : ((8 ^ k : Nat) : Int) = 8 ^ k := by
        rw [Int.natCast_pow]
        rfl
      unfold ML
      rw [Int.natCast_mul, e]
      have : (0 : Int) < 8 ^ k := Int.pow_pos (by decide)
      omega
    omega
  have f1 : f.1.natAbs ≤ (108 * 8 ^ k) * (720 * 240 ^ k) := by
    have a1 : (f.1.natAbs : Int) ≤ ((108 * 8 ^ k : Nat) : Int) * f.2 := Int.le_trans h.2.2 (Int.mul_le_mul_of_nonneg_right m1 (by omega))
    have a2 : ((108 * 8 ^ k : Nat) : Int) * f.2 ≤ ((108 * 8 ^ k : Nat) : Int) * ((720 * 240 ^ k : Nat) : Int) := Int.mul_le_mul_of_nonneg_left (by omega) (by omega)
    have a3 := Int.le_trans a1 a2
    rw [← Int.natCast_mul] at a3
    exact Int.ofNat_le.mp a3
  have g1 : (108 * 8 ^ k : Nat) < 2 ^ (7 + 3 * k) := by
    rw [Nat.pow_add, Nat.pow_mul]
    have : (0 : Nat) < (2 ^ 3) ^ k := Nat.pow_pos (by decide)
    show 108 * (2 ^ 3) ^ k < _
    omega
  refine ⟨?_, ?_⟩
  · refine Nat.lt_of_le_of_lt f1 (Nat.lt_of_lt_of_le (Nat.mul_lt_mul'' g1 g2) ?_)
    rw [← Nat.pow_add]
    exact Nat.pow_le_pow_right (by decide) (by omega)
  · exact Nat.lt_of_le_of_lt f2 (Nat.lt_of_lt_of_le g2 (Nat.pow_le_pow_right (by decide) (by omega)))
theorem Lv.bn {k : Nat} {f : FR} (h : Lv k f) (hk : k ≤ 41) : Bn 480 f := by
  have h : Dm (1 * DL k) (ML k) f := by rw [Int.one_mul]; exact h
  exact Dm.bn hk (by decide) h (by have := ML_ge k; omega) (by omega) (by decide)
/-! ### values, choices, forms -/
abbrev fmD (f : Fm) : PyData := .tuple [frP f.rate, .str (SX.S f.name), frP f.num]
theorem iteT' {c : Bool} {A B : Prop} (h : c = true) (a : A) : ite (c = true) A B := by rw [h]; exact a
theorem iteF' {c : Bool} {A B : Prop} (h : c = false) (a : B) : ite (c = true) A B := by rw [h]; exact a
theorem form_inv {z : Addr} {H : Hp} {v : V} {f : Fm} (h : Dt z H v (fmD f)) : ∃ P0 pr pn, v = .ref P0 ∧ H P0 = some (.tup [.ref pr, .str (SX.S f.name), .ref pn]) ∧ H pr = some (trF f.rate) ∧ H pn = some (trF f.num) := by
  cases h with
  | tup g hs =>
    cases hs with
    | cons h1 hs =>
      cases hs with
      | cons h2 hs =>
        cases hs with
        | cons h3 hs =>
          cases hs
          cases h2
          obtain ⟨pr, rfl, hpr⟩ := dt_fr h1
          obtain ⟨pn, rfl, hpn⟩ := dt_fr h3
          exact ⟨_, pr, pn, rfl, g, hpr, hpn⟩
def CL (K : PySem.W.Frag) (H : Hp) (cl : Addr) (cs : List FR) : Prop := ∃ us : List V, H cl = some (.lst us) ∧ Paired (fun u f => ∃ p, u = V.ref p ∧ FrV K H p f) us cs
theorem FrV.tr {K : PySem.W.Frag} {H H' : Hp} {p : Addr} {f : FR} (h : FrV K H p f) (t : Tr K H H') : FrV K H' p f := ⟨t.1 _ _ h.1, h.2.imp id (t.2 _ _)⟩
theorem pair_imp {α β : Type} {R S : α → β → Prop} (f : ∀ a b, R a b → S a b) {as : List α} {bs : List β} (h : Paired R as bs) : Paired S as bs := by
  induction h with
  | nil => exact .nil
  | cons h _ ih => exact .cons (f _ _ h) ih
theorem CL.same {K : PySem.W.Frag} {H H' : Hp} {cl : Addr} {cs : List FR} (h : CL K H cl cs) (s : Same H H') : CL K H' cl cs :=
  let ⟨us, h1, h2⟩ := h
  ⟨us, s _ _ h1, pair_imp (fun _ _ ⟨p, e, k⟩ => ⟨p, e, k.tr (Tr.sm s)⟩) h2⟩
theorem RDk.putV {K : PySem.W.Frag} {H : Hp} {kvs : List (Key × V)} {N : List (List Nat)} {val : List Nat → FR} (h : RDk K H kvs N val) {x : List Nat} {o : Addr} {f : FR} (ho : FrV K H o f) (hx : x ∈ N) : RDk K H (putK kvs (keyOf x) (.ref o)) N (setV val x f) := by
  refine ⟨?_, h.2.1, fun y hy => ?_⟩
  · rw [put_keys, h.1]
    obtain ⟨p, e, _⟩ := h.2.2 x hx
    rw [e]
    rfl
  · rw [valV_put]
    by_cases e : y = x
    · subst e
      refine ⟨o, if_pos rfl, ?_⟩
      unfold setV
      rw [if_pos rfl]
      exact ho
    · obtain ⟨p, e2, f2⟩ := h.2.2 y hy
      refine ⟨p, ?_, ?_⟩
      · rw [if_neg fun z => e (key_inj z)]
        exact e2
      · unfold setV
        rw [if_neg e]
        exact f2
theorem bn2 {k : Nat} {f : FR} (h : Bn k f) (hk : k ≤ 2048) : Bn 2048 f := h.mono hk
theorem fv_bn {ws : List Nm} {f : Fm} {v : Nm → FR} {k : Nat} (h : FmOk ws f) (hv : Vl k ws v) (hk : k ≤ 41) : Bn 480 (fvl f v) :=
  Dm.bn hk (by decide) (fvl_dm h hv) (by have := ML_ge k; omega) (by omega) (by decide)
theorem fm_bn {ws : List Nm} {f : Fm} (h : FmOk ws f) : Bn 6 f.num := by
  have d := h.dm
  have p := d.1.1
  have a : f.num.2 ≤ 2 := Int.le_of_dvd (by decide) d.2.1
  have b := d.2.2
  exact ⟨by show f.num.1.natAbs < 64; omega, by show f.num.2.natAbs < 64; omega⟩
section
variable {P : Program} {w : World} {K : PySem.W.Frag} {mg : Str → Option Value} {base : Heap} {fa : Nat → Addr} {fd : Nat → FuncData}
def spFv (K : PySem.W.Frag) : Sp := fun vs H Q _ => ∃ (vp : V) (d z : Addr) (f : Fm) (ws : List Nm) (v : Nm → FR) (k : Nat), vs = [vp, .ref d] ∧ Dt z H vp (fmD f) ∧ FmOk ws f ∧ RD K H d ws v ∧ Vl k ws v ∧ k ≤ 41 ∧ ∀ p H', Same H H' → FrK K H' p (fvl f v) → Q (.ref p) H'
theorem ok_p_form_value (T : Txt K mg fa fd) : FnOk P w K mg base CX0 5 (fa 18) (fd 18) ["form", "values"] (spFv K) := by
  refine T.F_p_form_value.ok sc_p_form_value (fun vs H Q E h => ?_) (fun cdv A outer s H vs Q E hr h => ?_)
  · obtain ⟨vp, d, z, f, ws, v, k, rfl, _⟩ := h
    rfl
  · obtain ⟨vp, d, z, f, ws, v, k, rfl, hf, ok, ⟨kvs, hk, hR⟩, hv, hk41, q⟩ := h
    refine ⟨_, (C8.pss_cut (ps_asg (pv 0) (pg_tup (by rfl) (pgs_cons (pg_name (i := 2) sc_p_form_value.nd rfl (.inl rfl)) (pgs_cons (pg_name (i := 3) sc_p_form_value.nd rfl (.inl rfl)) (pgs_cons (pg_name (i := 4) sc_p_form_value.nd rfl (.inl rfl)) pgs_nil)))))
      (pss_one (ps_ret (pe_ifExp (pt_cmpR (op_eqD hr.units) (pv 2) (C8.pe_gc (by rfl) T.c_ZERO) (nomark _)) (pv 4) (pe_call (ok_p_add T) (hr.mono (by decide)) (by rfl) T.g_p_add T.F_p_add.kp T.b_p_add .nil pass0 (pa_cons (pe_call (ok_p_multiply T) (hr.mono (by decide)) (by rfl) T.g_p_multiply T.F_p_multiply.kp T.b_p_multiply .nil pass0 (pa_cons (pv 2) (pa_cons (pe_dget (Nat.lt_of_le_of_lt (Nat.add_le_add_left (by decide) _) hr.units) (pv 1) (pv 3) (fun _ _ => rfl)) pa_nil))) (pa_cons (pv 4) pa_nil))))))), ?_⟩
    obtain ⟨P0, pr, pn, rfl, gp, hpr, hpn⟩ := form_inv hf
    · skip
      refine ⟨fun σ H1 => H1 = H ∧ σ = [some (.ref P0), some (.ref d), some (.ref pr), some (vS f.name), some (.ref pn)], ⟨_, rfl, P0, _, rfl, .inl (.inl gp), rfl, _, _, rfl, _, _, rfl, _, _, rfl, rfl, rfl, rfl⟩, fun σ H1 hM => ?_⟩
      obtain ⟨rfl, rfl⟩ := hM
      refine ⟨_, rfl, frP f.rate, frP (0, 1), .tup (SqT.of hpr) (.cons (.int _) (.cons (.int _) .nil)), .tup (T.z_ZERO _) (.cons (.int _) (.cons (.int _) .nil)), rfl, rfl, _, rfl, ?_⟩
      rw [eqv_pair]
      by_cases hz : f.rate = (0, 1)
      · refine iteT' (decide_eq_true hz) ⟨_, rfl, q pn _ (Same.refl _) ?_⟩
        unfold fvl
        rw [if_pos hz]
        exact SqT.of hpn
      · refine iteF' (decide_eq_false hz) ?_
        have hx := ok.nm hz
        obtain ⟨p1, ep, fp⟩ := hR.2.2 _ hx
        have lv := hv _ hx
        have bv := lv.bn hk41
        have rb := (rt_dm _ ok.rt)
        have mb := (rb.2.mul bv rb.1.1.1 lv.1.1)
        refine ⟨_, rfl, _, rfl, _, rfl, d, _, rfl, by rw [← ep]; exact DGet.k (k := keyOf f.name) hk, pr, p1, f.rate, v f.name, rfl, SqT.of hpr, fp.1, rb.1.1.1, lv.1.1, bn2 rb.2 (by decide), bn2 bv (by decide), fun e ne => ?_⟩
        have se := same_upd (o := trF (mulL f.rate (v f.name))) ne
        refine ⟨_, rfl, e, pn, mulL f.rate (v f.name), f.num, rfl, SqT.of upd_same, SqT.of (se _ _ hpn), (nf_low (Int.mul_ne_zero (by have := rb.1.1.1; omega) (by have := lv.1.1; omega))).1, ok.nf.1, bn2 mb (by decide), bn2 (fm_bn ok) (by decide), fun o no => q o _ (se.trans (same_upd no)) ?_⟩
        unfold fvl
        rw [if_neg hz]
        exact SqT.of upd_same
/-- the first choice is taken -/
def But1 (b : Addr) (H H' : Hp) : Prop := ∀ a o, a ≠ b → H a = some o → H' a = some o
def spNext (K : PySem.W.Frag) : Sp := fun vs H Q _ => ∃ (cl : Addr) (cs : List FR), vs = [.ref cl] ∧ CL K H cl cs ∧ cs.length ≤ 100 ∧ ∀ p H', But1 cl H H' → CL K H' cl cs.tail → FrV K H' p (nxF cs) → Q (.ref p) H'
theorem But1.tr {K : PySem.W.Frag} {H H' : Hp} {b : Addr} {xs : List V} (h : But1 b H H') (hb : H b = some (.lst xs)) : Tr K H H' := ⟨fun p ys h1 => by
  rcases h1 with (h1 | ⟨o, h1⟩) | h1
  · exact .inl (.inl (h _ _ (fun e => by rw [e, hb] at h1; cases h1) h1))
  · exact .inl (.inr ⟨o, h _ _ (fun e => by rw [e, hb] at h1; cases h1) h1⟩)
  · exact .inr h1, fun p ys h1 => h _ _ (fun e => by rw [e, hb] at h1; cases h1) h1⟩
theorem ok_p_next_choice (T : Txt K mg fa fd) : FnOk P w K mg base CX0 1 (fa 20) (fd 20) ["choices"] (spNext K) := by
  refine T.F_p_next_choice.ok sc_p_next_choice (fun vs H Q E h => ?_) (fun cdv A outer s H vs Q E hr h => ?_)
  · obtain ⟨cl, cs, rfl, _⟩ := h
    rfl
  · obtain ⟨cl, cs, rfl, ⟨us, hc, hp⟩, hl, q⟩ := h
    refine ⟨_, (pss_one (ps_ret (pe_ifExp (pt_cmpR op_gt (pe_callB call_len_seq (by rfl) T.m_len PySem.boot_len (pa_cons (pv 0) pa_nil)) pe_int (nomark _)) (pe_bm PySem.F.plainAttrs_list PySem.F.slot_list_pop PySem.F.type_list_pop mt_popAt (pv 0) (pa_cons pe_int pa_nil)) (C8.pe_gc (by rfl) T.c_ZERO)))), ?_⟩
    have ul : us.length = cs.length := Paired.length hp
    refine ⟨_, rfl, cl, us, rfl, .inl (SqL.of hc), _, _, rfl, rfl, _, rfl, ?_⟩
    cases hp with
    | nil =>
      refine iteF' (decide_eq_false (by decide)) ?_
      exact q _ _ (fun _ _ _ e => e) ⟨[], hc, .nil⟩ ⟨T.z_ZERO _, .inl rfl⟩
    | @cons u f us' cs' h t =>
      refine iteT' (decide_eq_true (by show (0 : Int) < ((us'.length + 1 : Nat) : Int); omega)) ?_
      obtain ⟨p1, rfl, hf⟩ := h
      have b1 : But1 cl H (upd H cl (.lst us')) := fun a o n e => by
        rw [upd_ne n]
        exact e
      have tr := b1.tr (K := K) hc
      refine ⟨_, rfl, .inl ⟨rfl, _, SqL.of hc⟩, cl, .ref p1 :: us', 0, 0, .ref p1, rfl, rfl, hc, by decide, by decide, by unfold seqIndex?; simp, rfl, ?_⟩
      exact q p1 _ b1 ⟨us', upd_same, pair_imp (fun _ _ ⟨p, e, k⟩ => ⟨p, e, k.tr tr⟩) t⟩ (hf.tr tr)
def spShr (K : PySem.W.Frag) : Sp := fun vs H Q _ => ∃ (p : Addr) (c : FR), vs = [.ref p] ∧ FrK K H p c ∧ c ∈ CH ∧ ∀ o H', Same H H' → FrK K H' o (shr c) → Q (.ref o) H'
theorem ok_p_share_of (T : Txt K mg fa fd) : FnOk P w K mg base CX0 4 (fa 21) (fd 21) ["choice"] (spShr K) := by
  refine T.F_p_share_of.ok sc_p_share_of (fun vs H Q E h => ?_) (fun cdv A outer s H vs Q E hr h => ?_)
  · obtain ⟨p, c, rfl, _⟩ := h
    rfl
  · obtain ⟨p, c, rfl, hp, hc, q⟩ := h
    refine ⟨_, (C8.pss_cut (ps_asg (pv 0) (pg_tup (by rfl) (pgs_cons (pg_name (i := 1) sc_p_share_of.nd rfl (.inl rfl)) (pgs_cons (pg_name (i := 2) sc_p_share_of.nd rfl (.inl rfl)) pgs_nil))))
      (pss_one (ps_ret (pe_ifExp (pt_cmpR op_eq (pv 1) pe_int (nomark _)) (C8.pe_gc (by rfl) T.c_ZERO) (pe_call (ok_p_ratio0 T) (hr.mono (by decide)) (by rfl) T.g_p_ratio T.F_p_ratio.kp T.b_p_ratio .nil pass0 (pa_cons (pv 2) (pa_cons (pe_op op_add (pv 2) (pe_callB call_abs (by rfl) T.m_abs PyProof.Rows.boot_abs (pa_cons (pv 1) pa_nil))) pa_nil))))))), ?_⟩
    refine ⟨fun σ H1 => H1 = H ∧ σ = [some (.ref p), some (.int c.1), some (.int c.2)], ⟨_, rfl, p, _, rfl, hp, rfl, _, _, rfl, _, _, rfl, rfl, rfl, rfl⟩, fun σ H1 hM => ?_⟩
    obtain ⟨rfl, rfl⟩ := hM
    have cd := ch_dm c hc
    refine ⟨_, rfl, rfl, _, rfl, ite2 (fun e => ?_) (fun e => ?_)⟩
    · have e := V.int.inj (of_decide_eq_true e)
      refine q _ _ (Same.refl _) ?_
      unfold shr
      rw [if_pos e]
      exact T.z_ZERO _
    · have e : c.1 ≠ 0 := fun z => e (decide_eq_true (by rw [z]))
      have ab : ∀ z : Int, (if z < 0 then -z else z) = (z.natAbs : Int) := fun z => by split <;> omega
      refine ⟨_, rfl, _, rfl, _, rfl, _, rfl, _, _, rfl, rfl, c.2, c.2 + (c.1.natAbs : Nat), by rw [ab]; rfl, by have := cd.2.2.2.2; omega, ?_, fun o no => q o _ (same_upd no) ?_⟩
      · have b := cd.2.2.1
        have b1 : c.1.natAbs < 1024 := b.1
        have b2 : c.2.natAbs < 1024 := b.2
        exact log2_mono (b := 8000) (by omega) (by decide +kernel)
      · unfold shr
        rw [if_neg e]
        exact SqT.of upd_same
theorem totF_app (val : Nm → FR) : ∀ (l r : List It) (acc : FR), totF val acc (l ++ r) = totF val (totF val acc l) r
  | [], _, _ => rfl
  | _ :: l, r, _ => totF_app val l r _
theorem tot_ok {ws : List Nm} {v : Nm → FR} {k : Nat} (hv : Vl k ws v) (hk : k ≤ 41) {tl : List It} (nm : ∀ u ∈ tl, u.1 ∈ ws) (nf : ∀ u ∈ tl, Nf u.2 ∧ Bn 40 u.2) : ∀ i, Nf (totF v (0, 1) (tl.take i)) ∧ Bn (1 + 521 * i) (totF v (0, 1) (tl.take i))
  | 0 => ⟨nf_01, bn_01⟩
  | i + 1 => by
    obtain ⟨a, b⟩ := tot_ok hv hk nm nf i
    rw [List.take_add_one, totF_app]
    cases e : tl[i]? with
    | none => exact ⟨a, b.mono (by omega)⟩
    | some u =>
      have hu := List.mem_of_getElem? e
      have lv := hv _ (nm u hu)
      have bm := (nf u hu).2.mul (lv.bn hk) (nf u hu).1.1 lv.1.1
      have nm2 : Nf (mulL u.2 (v u.1)) := nf_low (Int.mul_ne_zero (by have := (nf u hu).1.1; omega) (by have := lv.1.1; omega))
      exact ⟨addL_nf a.1 nm2.1, (b.add bm a.1 nm2.1).mono (by omega)⟩
def spKept (K : PySem.W.Frag) : Sp := fun vs H Q _ => ∃ (tv : V) (d z : Addr) (t : Tie) (ws : List Nm) (v : Nm → FR) (k : Nat), vs = [tv, .ref d] ∧ Dt z H tv (tieP t.1 t.2) ∧ TkOk ws t ∧ RD K H d ws v ∧ Vl k ws v ∧ k ≤ 41 ∧ ∀ H', Same H H' → Q (.bl (kpt v t)) H'
theorem tie_inv9 {z : Addr} {H : Hp} {v : V} {t : Tie} (h : Dt z H v (tieP t.1 t.2)) : ∃ P0 pt pb xs, v = .ref P0 ∧ H P0 = some (.tup [.ref pt, .ref pb]) ∧ H pt = some (.tup xs) ∧ DtAll z H xs (t.1.map tmP) ∧ H pb = some (trF t.2) := by
  cases h with
  | tup g hs =>
    cases hs with
    | cons h1 hs =>
      cases hs with
      | cons h3 hs =>
        cases hs
        obtain ⟨pb, rfl, hpb⟩ := dt_fr h3
        cases h1 with
        | tup g1 h1 => exact ⟨_, _, pb, _, rfl, g, g1, h1, hpb⟩
theorem trm_inv9 {z : Addr} {H : Hp} {v : V} {u : It} (h : Dt z H v (tmP u)) : ∃ P0 pr, v = .ref P0 ∧ H P0 = some (.tup [.str (SX.S u.1), .ref pr]) ∧ H pr = some (trF u.2) := by
  cases h with
  | tup g hs =>
    cases hs with
    | cons h1 hs =>
      cases hs with
      | cons h3 hs =>
        cases hs
        cases h1
        obtain ⟨pb, rfl, hpb⟩ := dt_fr h3
        exact ⟨_, pb, rfl, g, hpb⟩
theorem ok_p_is_kept (T : Txt K mg fa fd) : FnOk P w K mg base CX0 5 (fa 16) (fd 16) ["tie", "values"] (spKept K) := by
  refine T.F_p_is_kept.ok sc_p_is_kept (fun vs H Q E h => ?_) (fun cdv A outer s H vs Q E hr h => ?_)
  · obtain ⟨tv, d, z, t, ws, v, k, rfl, _⟩ := h
    rfl
  · obtain ⟨tv, d, z, t, ws, v, k, rfl, ht, ok, ⟨kvs, hk, hR⟩, hv, hk41, q⟩ := h
    refine ⟨_, (C8.pss_cut (ps_asg (pv 0) (pg_tup (by rfl) (pgs_cons (pg_name (i := 2) sc_p_is_kept.nd rfl (.inl rfl)) (pgs_cons (pg_name (i := 3) sc_p_is_kept.nd rfl (.inl rfl)) pgs_nil))))
      (C8.pss_cut (ps_set (i := 4) sc_p_is_kept.nd rfl (.inl rfl) (C8.pe_gc (by rfl) T.c_ZERO))
      (C8.pss_cut (ps_for PassesOwn.never rfl (pi_tup (pv 2)) (pg_tup (by rfl) (pgs_cons (pg_name (i := 5) sc_p_is_kept.nd rfl (.inl rfl)) (pgs_cons (pg_name (i := 6) sc_p_is_kept.nd rfl (.inl rfl)) pgs_nil))) (pss_one (ps_set (i := 4) sc_p_is_kept.nd rfl (.inl rfl) (pe_call (ok_p_add T) (hr.mono (by decide)) (by rfl) T.g_p_add T.F_p_add.kp T.b_p_add .nil pass0 (pa_cons (pv 4) (pa_cons (pe_call (ok_p_multiply T) (hr.mono (by decide)) (by rfl) T.g_p_multiply T.F_p_multiply.kp T.b_p_multiply .nil pass0 (pa_cons (pv 6) (pa_cons (pe_dget (Nat.lt_of_le_of_lt (Nat.add_le_add_left (by decide) _) hr.units) (pv 1) (pv 5) (fun _ _ => rfl)) pa_nil))) pa_nil))))))
      (pss_one (ps_ret (pe_not (pe_call (ok_p_is_less T) (hr.mono (by decide)) (by rfl) T.g_p_is_less T.F_p_is_less.kp T.b_p_is_less .nil pass0 (pa_cons (pv 3) (pa_cons (pv 4) pa_nil))))))))), ?_⟩
    obtain ⟨P0, pt, pb, xs, rfl, gp, gt, hxs, hpb⟩ := tie_inv9 ht
    have xl : xs.length = t.1.length := by
      have := hxs.len
      rw [List.length_map] at this
      exact this
    refine ⟨fun σ H1 => H1 = H ∧ σ = [some (.ref P0), some (.ref d), some (.ref pt), some (.ref pb), none, none, none], ⟨_, rfl, P0, _, rfl, .inl (.inl gp), rfl, _, _, rfl, _, _, rfl, rfl, rfl, rfl⟩, fun σ H1 hM => ?_⟩
    obtain ⟨rfl, rfl⟩ := hM
    refine ⟨fun σ H2 => H2 = H1 ∧ σ = [some (.ref P0), some (.ref d), some (.ref pt), some (.ref pb), some (.ref (fa 2000)), none, none], ⟨rfl, rfl⟩, fun σ H2 hM => ?_⟩
    obtain ⟨rfl, rfl⟩ := hM
    have to := tot_ok hv hk41 ok.nm ok.nf
    refine ⟨fun σ G => Same H2 G ∧ ∃ q0 y5 y6, FrK K G q0 (totF v (0, 1) t.1) ∧ σ = [some (.ref P0), some (.ref d), some (.ref pt), some (.ref pb), some (.ref q0), y5, y6], ?_, fun σ G hM => ?_⟩
    · refine ⟨_, rfl, pt, rfl, ⟨_, SqT.of gt⟩, for_tup (K := K) (a := pt) (xs := xs) (fun i σ G => Same H2 G ∧ ∃ q0 y5 y6, FrK K G q0 (totF v (0, 1) (t.1.take i)) ∧ σ = [some (.ref P0), some (.ref d), some (.ref pt), some (.ref pb), some (.ref q0), y5, y6]) ⟨Same.refl _, _, _, _, T.z_ZERO _, rfl⟩ (fun i σ G _ hq => SqT.of (hq.1 _ _ gt)) (fun i x σ G hx hq => ?_) (fun σ G hq => ?_)⟩
      · obtain ⟨sG, q0, y5, y6, hq0, rfl⟩ := hq
        obtain ⟨dd, hd, hdt⟩ := DtAll.at i hxs hx
        rw [List.getElem?_map] at hd
        obtain ⟨u, he, rfl⟩ := Option.map_eq_some_iff.mp hd
        obtain ⟨pp, pr, rfl, hpp, hpr⟩ := trm_inv9 hdt
        have hu := List.mem_of_getElem? he
        have hx2 := ok.nm u hu
        obtain ⟨p1, ep, fp⟩ := hR.2.2 _ hx2
        have lv := hv _ hx2
        have bv := lv.bn hk41
        have ru := ok.nf u hu
        have mb := ru.2.mul bv ru.1.1 lv.1.1
        have nm2 : Nf (mulL u.2 (v u.1)) := nf_low (Int.mul_ne_zero (by have := ru.1.1; omega) (by have := lv.1.1; omega))
        have il : i < 2 := by
          have := (List.getElem?_eq_some_iff.mp he).1
          have := ok.ln
          omega
        refine ⟨pp, _, rfl, .inl (.inl (sG _ _ hpp)), rfl, _, _, rfl, _, _, rfl, rfl, _, rfl, _, rfl, _, rfl, _, rfl, d, _, rfl, by rw [← ep]; exact DGet.k (k := keyOf u.1) (sG _ _ hk), pr, p1, u.2, v u.1, rfl, SqT.of (sG _ _ hpr), SqT.sm sG _ _ fp.1, ru.1.1, lv.1.1, bn2 ru.2 (by decide), bn2 bv (by decide), fun e ne => ?_⟩
        have se := same_upd (o := trF (mulL u.2 (v u.1))) ne
        refine ⟨q0, e, totF v (0, 1) (t.1.take i), mulL u.2 (v u.1), rfl, SqT.sm se _ _ hq0, SqT.of upd_same, (to i).1.1, nm2.1, bn2 (to i).2 (by omega), bn2 mb (by decide), fun o no => ?_⟩
        have so := se.trans (same_upd (o := trF (addL (totF v (0, 1) (t.1.take i)) (mulL u.2 (v u.1)))) no)
        refine ⟨sG.trans so, o, _, _, ?_, rfl⟩
        rw [List.take_add_one, he, totF_app]
        exact SqT.of upd_same
      · obtain ⟨sG, q0, y5, y6, hq0, rfl⟩ := hq
        rw [xl, List.take_length] at hq0
        exact ⟨sG, q0, _, _, hq0, rfl⟩
    obtain ⟨sG, q0, y5, y6, hq0, rfl⟩ := hM
    have tl2 := to t.1.length
    rw [List.take_length] at tl2
    have ln := ok.ln
    refine ⟨_, rfl, _, rfl, pb, q0, t.2, totF v (0, 1) t.1, rfl, SqT.of (sG _ _ hpb), hq0, bn2 ok.bf.2 (by decide), bn2 tl2.2 (by omega), _, rfl, q _ sG⟩
end
/-! ### sets -/
def Two (d cl : Addr) (H H' : Hp) : Prop := ∀ b o, b ≠ d → b ≠ cl → H b = some o → H' b = some o
theorem Two.of {d cl : Addr} {H H' : Hp} (s : Same H H') : Two d cl H H' := fun b o _ _ e => s b o e
theorem Two.of1 {d cl : Addr} {H H' : Hp} (s : But1 cl H H') : Two d cl H H' := fun b o _ n e => s b o n e
theorem Two.trans {d cl : Addr} {H H1 H2 : Hp} (h : Two d cl H H1) (k : Two d cl H1 H2) : Two d cl H H2 := fun b o n m e => k b o n m (h b o n m e)
theorem Two.updD {d cl : Addr} {H : Hp} {o : HO} : Two d cl H (upd H d o) := fun b u n _ e => by
  rw [upd_ne n]
  exact e
theorem Two.tt {d cl : Addr} {H H' : Hp} {kvs : List (Key × V)} {us : List V} (h : Two d cl H H') (hd : H d = some (.dK kvs)) (hc : H cl = some (.lst us)) : TT H H' := fun p xs e =>
  h p _ (fun z => by rw [z, hd] at e; cases e) (fun z => by rw [z, hc] at e; cases e) e
def Post (K : PySem.W.Frag) (d cl : Addr) (ws : List Nm) (H : Hp) (o : Option Sta) (Q : VK) : Prop := ∀ H', Two d cl H H' → (∀ s, o = some s → RD K H' d ws s.1 ∧ CL K H' cl s.2) → Q (.bl o.isSome) H'
section
variable {P : Program} {w : World} {K : PySem.W.Frag} {mg : Str → Option Value} {base : Heap} {fa : Nat → Addr} {fd : Nat → FuncData}
structure St0 (K : PySem.W.Frag) (d cl : Addr) (ws : List Nm) (k : Nat) (H : Hp) (s : Sta) : Prop where
  rd : RD K H d ws s.1
  cl : CL K H cl s.2
  lv : Vl k ws s.1
  ch : ∀ x ∈ s.2, x ∈ CH
  ln : s.2.length ≤ 100
def spSets (K : PySem.W.Frag) : Sp := fun vs H Q _ => ∃ (sp d cl z : Addr) (tag vf vg : V) (x : Nm) (f g : Fm) (ws : List Nm) (s : Sta) (k : Nat), vs = [.ref sp, .ref d, .ref cl] ∧ H sp = some (.tup [tag, vS x, vf, vg]) ∧ Dt z H vf (fmD f) ∧ Dt z H vg (fmD g) ∧ x ∈ ws ∧ FmOk ws f ∧ FmOk ws g ∧ St0 K d cl ws k H s ∧ k ≤ 40 ∧ ws.length ≤ 100 ∧ Post K d cl ws H (setS x f g s) Q
theorem ok_p_sets_value (T : Txt K mg fa fd) : FnOk P w K mg base CX0 6 (fa 22) (fd 22) ["statement", "values", "choices"] (spSets K) := by
  refine T.F_p_sets_value.ok sc_p_sets_value (fun vs H Q E h => ?_) (fun cdv A outer s H vs Q E hr h => ?_)
  · obtain ⟨sp, d, cl, z, tag, vf, vg, x, f, g, ws, s, k, rfl, _⟩ := h
    rfl
  · obtain ⟨sp, d, cl, z, tag, vf, vg, x, f, g, ws, s, k, rfl, hsp, hf, hg, hx, okf, okg, S0, hk, hwl, q⟩ := h
    refine ⟨_, (C8.pss_cut (ps_set (i := 3) sc_p_sets_value.nd rfl (.inl rfl) (pe_call (ok_p_form_value T) (hr.mono (by decide)) (by rfl) T.g_p_form_value T.F_p_form_value.kp T.b_p_form_value .nil pass0 (pa_cons (pe_ix ix_tup (pv 0) pe_int (fun _ _ => rfl)) (pa_cons (pv 1) pa_nil))))
      (C8.pss_cut (ps_set (i := 4) sc_p_sets_value.nd rfl (.inl rfl) (pe_call (ok_p_form_value T) (hr.mono (by decide)) (by rfl) T.g_p_form_value T.F_p_form_value.kp T.b_p_form_value .nil pass0 (pa_cons (pe_ix ix_tup (pv 0) pe_int (fun _ _ => rfl)) (pa_cons (pv 1) pa_nil))))
      (C8.pss_cut (ps_if (pt_val (pe_call (ok_p_is_less T) (hr.mono (by decide)) (by rfl) T.g_p_is_less T.F_p_is_less.kp T.b_p_is_less .nil pass0 (pa_cons (pv 4) (pa_cons (pv 3) pa_nil)))) (pss_one (ps_ret pe_bl)) pss_nil)
      (C8.pss_cut (ps_set (i := 5) sc_p_sets_value.nd rfl (.inl rfl) (pe_call (ok_p_share_of T) (hr.mono (by decide)) (by rfl) T.g_p_share_of T.F_p_share_of.kp T.b_p_share_of .nil pass0 (pa_cons (pe_call (ok_p_next_choice T) (hr.mono (by decide)) (by rfl) T.g_p_next_choice T.F_p_next_choice.kp T.b_p_next_choice .nil pass0 (pa_cons (pv 2) pa_nil)) pa_nil)))
      (C8.pss_cut (ps_dput (Nat.lt_of_le_of_lt (Nat.add_le_add_left (by decide) _) hr.units) (pv 1) (pe_ix ix_tup (pv 0) pe_int (fun _ _ => rfl)) (pe_call (ok_p_add T) (hr.mono (by decide)) (by rfl) T.g_p_add T.F_p_add.kp T.b_p_add .nil pass0 (pa_cons (pv 3) (pa_cons (pe_call (ok_p_multiply T) (hr.mono (by decide)) (by rfl) T.g_p_multiply T.F_p_multiply.kp T.b_p_multiply .nil pass0 (pa_cons (pv 5) (pa_cons (pe_call (ok_p_subtract T) (hr.mono (by decide)) (by rfl) T.g_p_subtract T.F_p_subtract.kp T.b_p_subtract .nil pass0 (pa_cons (pv 4) (pa_cons (pv 3) pa_nil))) pa_nil))) pa_nil))) (by rfl))
      (pss_one (ps_ret pe_bl))))))), ?_⟩
    have bf := fv_bn okf S0.lv (by omega)
    have bg := fv_bn okg S0.lv (by omega)
    have nff := (fvl_dm okf S0.lv).1
    have nfg := (fvl_dm okg S0.lv).1
    refine ⟨fun σ G => Same H G ∧ ∃ pf, FrK K G pf (fvl f s.1) ∧ σ = [some (.ref sp), some (.ref d), some (.ref cl), some (.ref pf), none, none], ?_, fun σ G hM => ?_⟩
    · exact ⟨_, rfl, sp, _, _, _, rfl, rfl, SqT.of hsp, rfl, _, rfl, vf, d, z, f, ws, s.1, k, rfl, hf, okf, S0.rd, S0.lv, by omega, fun p G s1 hp => ⟨s1, p, hp, rfl⟩⟩
    obtain ⟨s1, pf, hpf, rfl⟩ := hM
    refine ⟨fun σ G1 => Same G G1 ∧ ∃ pg, FrK K G1 pg (fvl g s.1) ∧ σ = [some (.ref sp), some (.ref d), some (.ref cl), some (.ref pf), some (.ref pg), none], ?_, fun σ G1 hM => ?_⟩
    · exact ⟨_, rfl, sp, _, _, _, rfl, rfl, SqT.of (s1 _ _ hsp), rfl, _, rfl, vg, d, z, g, ws, s.1, k, rfl, hg.same s1, okg, S0.rd.same s1, S0.lv, by omega, fun p G2 s2 hp => ⟨s2, p, hp, rfl⟩⟩
    obtain ⟨s2, pg, hpg, rfl⟩ := hM
    have hpf := SqT.sm s2 _ _ hpf
    have s12 := s1.trans s2
    refine ⟨fun σ G2 => G2 = G1 ∧ ltQ (fvl g s.1) (fvl f s.1) = false ∧ σ = [some (.ref sp), some (.ref d), some (.ref cl), some (.ref pf), some (.ref pg), none], ?_, fun σ G2 hM => ?_⟩
    · refine ⟨_, rfl, _, rfl, pg, pf, fvl g s.1, fvl f s.1, rfl, hpg, hpf, bn2 bg (by decide), bn2 bf (by decide), _, rfl, ?_⟩
      show ite (ltQ (fvl g s.1) (fvl f s.1) = true) _ _
      cases e : ltQ (fvl g s.1) (fvl f s.1) with
      | false => exact iteF ⟨rfl, rfl, rfl⟩
      | true =>
        refine iteT ?_
        have : setS x f g s = none := by
          unfold setS
          rw [if_pos e]
        have q2 := q G1 (Two.of s12) (fun t ht => by rw [this] at ht; cases ht)
        rw [this] at q2
        exact q2
    obtain ⟨rfl, hlt, rfl⟩ := hM
    have rd1 := S0.rd.same s12
    have cl1 := S0.cl.same s12
    obtain ⟨kvs, hkd, hR⟩ := rd1
    obtain ⟨us, hus, hps⟩ := cl1
    have dn : d ≠ cl := fun e => by
      rw [e, hus] at hkd
      cases hkd
    refine ⟨fun σ G3 => Two d cl G2 G3 ∧ G3 d = some (.dK kvs) ∧ RDk K G3 kvs ws s.1 ∧ CL K G3 cl s.2.tail ∧ FrK K G3 pf (fvl f s.1) ∧ FrK K G3 pg (fvl g s.1) ∧ ∃ ps, FrK K G3 ps (shr (nxF s.2)) ∧ σ = [some (.ref sp), some (.ref d), some (.ref cl), some (.ref pf), some (.ref pg), some (.ref ps)], ?_, fun σ G3 hM => ?_⟩
    · refine ⟨_, rfl, cl, s.2, rfl, ⟨us, hus, hps⟩, S0.ln, fun p0 G3 b1 hcl hp0 => ⟨p0, nxF s.2, rfl, hp0.1, nx_ch S0.ch, fun o G4 s4 ho => ?_⟩⟩
      have tr := (b1.tr (K := K) hus)
      have tr4 : Tr K G2 G4 := ⟨fun p xs h => SqT.sm s4 _ _ (tr.1 _ _ h), fun p xs h => s4 _ _ (tr.2 _ _ h)⟩
      exact ⟨(Two.of1 b1).trans (Two.of s4), s4 _ _ (b1 _ _ dn hkd), hR.mono tr4, hcl.same s4, tr4.1 _ _ hpf, tr4.1 _ _ hpg, o, ho, rfl⟩
    obtain ⟨two3, hkd3, hR3, hcl3, hpf3, hpg3, ps, hps3, rfl⟩ := hM
    have sd := set_dm okf okg S0.lv (nx_ch S0.ch)
    have cd := ch_dm _ (nx_ch S0.ch)
    have b1 : Bn 480 (subL (fvl g s.1) (fvl f s.1)) := Dm.bn (k := k) (by omega) (by decide) sd.1 (by have := ML_ge k; omega) (by omega) (by decide)
    have b2 : Bn 480 (mulL (shr (nxF s.2)) (subL (fvl g s.1) (fvl f s.1))) := by
      have h := sd.2.1
      rw [← Int.mul_assoc] at h
      exact Dm.bn (k := k) (by omega) (by decide) h (by have := ML_ge k; omega) (by omega) (by decide)
    refine ⟨fun σ G4 => Two d cl G3 G4 ∧ RD K G4 d ws (setV s.1 x (addL (fvl f s.1) (mulL (shr (nxF s.2)) (subL (fvl g s.1) (fvl f s.1))))) ∧ CL K G4 cl s.2.tail, ?_, fun σ G4 hM => ?_⟩
    · have hsp3 : G3 sp = some (.tup [tag, vS x, vf, vg]) := two3.tt hkd hus _ _ (s12 _ _ hsp)
      refine ⟨_, rfl, _, rfl, _, rfl, _, rfl, pg, pf, fvl g s.1, fvl f s.1, rfl, hpg3, hpf3, nfg.1, nff.1, bn2 bg (by decide), bn2 bf (by decide), fun e1 n1 => ?_⟩
      have t1' := same_upd (o := trF (subL (fvl g s.1) (fvl f s.1))) n1
      refine ⟨ps, e1, shr (nxF s.2), subL (fvl g s.1) (fvl f s.1), rfl, SqT.sm t1' _ _ hps3, SqT.of upd_same, (shr_dm (nx_ch S0.ch)).1.1, sd.1.1.1, bn2 cd.2.2.2.1 (by decide), bn2 b1 (by decide), fun e2 n2 => ?_⟩
      have t2' := t1'.trans (same_upd (o := trF (mulL (shr (nxF s.2)) (subL (fvl g s.1) (fvl f s.1)))) n2)
      refine ⟨pf, e2, fvl f s.1, mulL (shr (nxF s.2)) (subL (fvl g s.1) (fvl f s.1)), rfl, SqT.sm t2' _ _ hpf3, SqT.of upd_same, nff.1, sd.2.1.1.1, bn2 bf (by decide), bn2 b2 (by decide), fun e3 n3 => ?_⟩
      have t3' := t2'.trans (same_upd (o := trF (addL (fvl f s.1) (mulL (shr (nxF s.2)) (subL (fvl g s.1) (fvl f s.1))))) n3)
      have hkd5 := t3' _ _ hkd3
      have hkl : kvs.length < sizeLine := by
        rw [hR.len]
        exact small1000 (by omega)
      refine ⟨_, rfl, _, rfl, sp, _, _, _, rfl, rfl, SqT.of (t3' _ _ hsp3), rfl, d, _, rfl, DPut.k (k := keyOf x) hkd5 hkl, (Two.of t3').trans Two.updD, ⟨_, upd_same, ?_⟩, ?_⟩
      · exact (((hR3.mono (Tr.sm t3')).putV (f := addL (fvl f s.1) (mulL (shr (nxF s.2)) (subL (fvl g s.1) (fvl f s.1)))) ⟨SqT.of upd_same, .inr upd_same⟩ hx).mono (Tr.updD hkd5))
      · obtain ⟨us3, hu3, hp3⟩ := hcl3
        refine ⟨us3, ?_, pair_imp (fun _ _ ⟨p, e, h⟩ => ⟨p, e, (h.tr (Tr.sm t3')).tr (Tr.updD hkd5)⟩) hp3⟩
        rw [upd_ne dn.symm]
        exact t3' _ _ hu3
    obtain ⟨two4, hrd4, hcl4⟩ := hM
    have e : setS x f g s = some (setV s.1 x (addL (fvl f s.1) (mulL (shr (nxF s.2)) (subL (fvl g s.1) (fvl f s.1)))), s.2.tail) := by
      unfold setS
      rw [if_neg (by rw [hlt]; decide)]
    have q2 := q G4 ((Two.of s12).trans (two3.trans two4)) (fun t ht => by
      rw [e] at ht
      cases ht
      exact ⟨hrd4, hcl4⟩)
    rw [e] at q2
    exact q2
end
/-! ### programs as data; a statement -/
abbrev tkD (t : Tie) : PyData := tieP t.1 t.2
def pgL : Pg → List PyData
  | .nil => []
  | .set x f g r => .tuple [.str (Str.ofString "set"), .str (SX.S x), fmD f, fmD g] :: pgL r
  | .any x r => .tuple [.str (Str.ofString "any"), .str (SX.S x)] :: pgL r
  | .chk ts r => .tuple [.str (Str.ofString "check"), .tuple (ts.map tkD)] :: pgL r
  | .eit p q r => .tuple [.str (Str.ofString "either"), .tuple (pgL p), .tuple (pgL q)] :: pgL r
  | .rep n p r => .tuple [.str (Str.ofString "repeat"), .int (n : Int), .tuple (pgL p)] :: pgL r
theorem pgL_app : ∀ p b : Pg, pgL (appP p b) = pgL p ++ pgL b
  | .nil, _ => rfl
  | .set _ _ _ r, b => congrArg (_ :: ·) (pgL_app r b)
  | .any _ r, b => congrArg (_ :: ·) (pgL_app r b)
  | .chk _ r, b => congrArg (_ :: ·) (pgL_app r b)
  | .eit _ _ r, b => congrArg (_ :: ·) (pgL_app r b)
  | .rep _ _ r, b => congrArg (_ :: ·) (pgL_app r b)
theorem pgL_rep (p : Pg) : ∀ n, pgL (repP p n) = (List.replicate n (pgL p)).flatten
  | 0 => rfl
  | n + 1 => by
    show pgL (appP p (repP p n)) = _
    rw [pgL_app, pgL_rep p n, List.replicate_succ, List.flatten_cons]
theorem pgL_len : ∀ p : Pg, (pgL p).length = lnP p
  | .nil => rfl
  | .set _ _ _ r => by show (pgL r).length + 1 = 1 + lnP r; rw [pgL_len r]; omega
  | .any _ r => by show (pgL r).length + 1 = 1 + lnP r; rw [pgL_len r]; omega
  | .chk _ r => by show (pgL r).length + 1 = 1 + lnP r; rw [pgL_len r]; omega
  | .eit _ _ r => by show (pgL r).length + 1 = 1 + lnP r; rw [pgL_len r]; omega
  | .rep _ _ r => by show (pgL r).length + 1 = 1 + lnP r; rw [pgL_len r]; omega
theorem ln_app (p b : Pg) : lnP (appP p b) = lnP p + lnP b := by rw [← pgL_len, pgL_app, List.length_append, pgL_len, pgL_len]
theorem ln_rep (p : Pg) : ∀ n, lnP (repP p n) = n * lnP p
  | 0 => by show 0 = 0 * lnP p; omega
  | n + 1 => by
    show lnP (appP p (repP p n)) = (n + 1) * lnP p
    rw [ln_app, ln_rep p n, Nat.succ_mul]
    omega
theorem all_app {z : Addr} {H : Hp} : ∀ {xs ys : List V} {ds es : List PyData}, DtAll z H xs ds → DtAll z H ys es → DtAll z H (xs ++ ys) (ds ++ es)
  | _, _, _, _, .nil, k => k
  | _, _, _, _, .cons h t, k => .cons h (all_app t k)
theorem set_inv {z : Addr} {H : Hp} {v : V} {x : Nm} {f g : Fm} {w0 : Str} (h : Dt z H v (.tuple [.str w0, .str (SX.S x), fmD f, fmD g])) : ∃ sp vf vg, v = .ref sp ∧ H sp = some (.tup [.str w0, vS x, vf, vg]) ∧ Dt z H vf (fmD f) ∧ Dt z H vg (fmD g) := by
  cases h with
  | tup g0 hs =>
    cases hs with
    | cons h1 hs =>
      cases hs with
      | cons h2 hs =>
        cases hs with
        | cons h3 hs =>
          cases hs with
          | cons h4 hs =>
            cases hs
            cases h1
            cases h2
            exact ⟨_, _, _, rfl, g0, h3, h4⟩
theorem any_inv {z : Addr} {H : Hp} {v : V} {x : Nm} {w0 : Str} (h : Dt z H v (.tuple [.str w0, .str (SX.S x)])) : ∃ sp, v = .ref sp ∧ H sp = some (.tup [.str w0, vS x]) := by
  cases h with
  | tup g0 hs =>
    cases hs with
    | cons h1 hs =>
      cases hs with
      | cons h2 hs =>
        cases hs
        cases h1
        cases h2
        exact ⟨_, rfl, g0⟩
theorem two_inv {z : Addr} {H : Hp} {v : V} {a : PyData} {w0 : Str} (h : Dt z H v (.tuple [.str w0, a])) : ∃ sp va, v = .ref sp ∧ H sp = some (.tup [.str w0, va]) ∧ Dt z H va a := by
  cases h with
  | tup g0 hs =>
    cases hs with
    | cons h1 hs =>
      cases hs with
      | cons h2 hs =>
        cases hs
        cases h1
        exact ⟨_, _, rfl, g0, h2⟩
theorem three_inv {z : Addr} {H : Hp} {v : V} {a b : PyData} {w0 : Str} (h : Dt z H v (.tuple [.str w0, a, b])) : ∃ sp va vb, v = .ref sp ∧ H sp = some (.tup [.str w0, va, vb]) ∧ Dt z H va a ∧ Dt z H vb b := by
  cases h with
  | tup g0 hs =>
    cases hs with
    | cons h1 hs =>
      cases hs with
      | cons h2 hs =>
        cases hs with
        | cons h3 hs =>
          cases hs
          cases h1
          exact ⟨_, _, _, rfl, g0, h2, h3⟩
theorem all_rep {z : Addr} {H : Hp} {xs : List V} {ds : List PyData} (h : DtAll z H xs ds) : ∀ n, DtAll z H (List.replicate n xs).flatten (List.replicate n ds).flatten
  | 0 => .nil
  | n + 1 => by
    rw [List.replicate_succ, List.replicate_succ, List.flatten_cons, List.flatten_cons]
    exact all_app h (all_rep h n)
theorem noLs_tm4 : ∀ l : List It, noLs (l.map tmP) = true
  | [] => rfl
  | u :: l => by
    show (true && noLs (l.map tmP)) = true
    rw [noLs_tm4 l]
    rfl
theorem noLs_tk : ∀ l : List Tie, noLs (l.map tkD) = true
  | [] => rfl
  | t :: l => by
    show ((noLs (t.1.map tmP) && true) && noLs (l.map tkD)) = true
    rw [noLs_tm4, noLs_tk l]
    rfl
theorem noLs_pg : ∀ p : Pg, noLs (pgL p) = true
  | .nil => rfl
  | .set x f g r => noLs_pg r
  | .any x r => noLs_pg r
  | .chk ts r => by
    show ((true && (noLs (ts.map tkD) && true)) && noLs (pgL r)) = true
    rw [noLs_tk, noLs_pg r]
    rfl
  | .eit p q r => by
    show ((true && (noLs (pgL p) && (noLs (pgL q) && true))) && noLs (pgL r)) = true
    rw [noLs_pg p, noLs_pg q, noLs_pg r]
    rfl
  | .rep n p r => by
    show ((true && (true && (noLs (pgL p) && true))) && noLs (pgL r)) = true
    rw [noLs_pg p, noLs_pg r]
    rfl
theorem nx_zero {c : FR} (h : c ∈ CH) : (c = (0, 1)) ↔ c.1 = 0 := by
  simp only [CH, List.mem_cons, List.not_mem_nil, or_false] at h
  rcases h with rfl | rfl | rfl | rfl | rfl | rfl | rfl <;> decide
def spRuns (K : PySem.W.Frag) (n : Nat) : Sp := fun vs H Q _ => ∃ (vp : V) (d cl z : Addr) (p : Pg) (ws : List Nm) (s : Sta) (k : Nat), vs = [vp, .ref d, .ref cl] ∧ Dt z H vp (.tuple (pgL p)) ∧ PgOk ws p ∧ dep p ≤ n ∧ St0 K d cl ws k H s ∧ k + cnt p ≤ 40 ∧ ws.length ≤ 100 ∧ Post K d cl ws H (go p s) Q
def spStmt (K : PySem.W.Frag) (n : Nat) : Sp := fun vs H Q _ => ∃ (v : V) (d cl z : Addr) (p : Pg) (D : PyData) (R : List PyData) (ws : List Nm) (s : Sta) (k : Nat), vs = [v, .ref d, .ref cl] ∧ pgL p = D :: R ∧ Dt z H v D ∧ PgOk ws (one p) ∧ dep (one p) ≤ n ∧ St0 K d cl ws k H s ∧ k + cnt (one p) ≤ 40 ∧ ws.length ≤ 100 ∧ Post K d cl ws H (go (one p) s) Q
def spR (K : PySem.W.Frag) : Nat → Sp
  | 0 => fun _ _ _ _ => False
  | n + 1 => spRuns K n
section
variable {P : Program} {w : World} {K : PySem.W.Frag} {mg : Str → Option Value} {base : Heap} {fa : Nat → Addr} {fd : Nat → FuncData}
theorem stmt_step (T : Txt K mg fa fd) (n : Nat) (G : FnOk P w K mg base CX0 (2 * n + 6) (fa 24) (fd 24) ["program", "values", "choices"] (spR K n)) : FnOk P w K mg base CX0 (2 * n + 7) (fa 23) (fd 23) ["statement", "values", "choices"] (spStmt K n) := by
  refine T.F_p_runs_statement.ok sc_p_runs_statement (fun vs H Q E h => ?_) (fun cdv A outer s0 H vs Q E hr h => ?_)
  · obtain ⟨v, d, cl, z, p, D, R, ws, s, k, rfl, _⟩ := h
    rfl
  · obtain ⟨v, d, cl, z, p, D, R, ws, s, k, rfl, hp, hv, ok, hdep, S0, hk, hwl, q⟩ := h
    refine ⟨_, (C8.pss_cut (ps_set (i := 3) sc_p_runs_statement.nd rfl (.inl rfl) (pe_ix ix_tup (pv 0) pe_int (fun _ _ => rfl)))
      (C8.pss_cut (ps_if (pt_cmpR op_eq (pv 3) pe_str (nomark _)) (pss_one (ps_ret (pe_call (ok_p_sets_value T) (hr.mono (by omega)) (by rfl) T.g_p_sets_value T.F_p_sets_value.kp T.b_p_sets_value .nil pass0 (pa_cons (pv 0) (pa_cons (pv 1) (pa_cons (pv 2) pa_nil)))))) pss_nil)
      (C8.pss_cut (ps_if (pt_cmpR op_eq (pv 3) pe_str (nomark _)) (C8.pss_cut (ps_dput (Nat.lt_of_le_of_lt (Nat.add_le_add_left (by decide) _) hr.units) (pv 1) (pe_ix ix_tup (pv 0) pe_int (fun _ _ => rfl)) (pe_call (ok_p_next_choice T) (hr.mono (by omega)) (by rfl) T.g_p_next_choice T.F_p_next_choice.kp T.b_p_next_choice .nil pass0 (pa_cons (pv 2) pa_nil)) (by rfl))
      (pss_one (ps_ret pe_bl))) pss_nil)
      (C8.pss_cut (ps_if (pt_cmpR op_eq (pv 3) pe_str (nomark _)) (pss_one (ps_ret (pe_callB (cr_all rfl) (by rfl) T.m_all PyProof.Rows.boot_all (pa_cons (pe_lc (own := [("tie", 5)]) (g := gName 5) (tt := tYes) rfl sc_p_runs_statement.nd (pi_tup (pe_ix ix_tup (pv 0) pe_int (fun _ _ => rfl))) (blkOk_by (own := [("tie", 5)]) (N := ["statement", "values", "choices", "word", "chosen", "tie"]) (sc := defScope s_p_runs_statement) (by decide +kernel)) (fun _ _ _ _ _ => pg_name (i := 5) sc_p_runs_statement.nd rfl (Or.inl rfl)) (fun _ _ _ _ _ => pts_nil) (fun _ _ _ _ _ => (pe_call (ok_p_is_kept T) (hr.mono (by omega)) (by rfl) T.g_p_is_kept T.F_p_is_kept.kp T.b_p_is_kept .nil pass0 (pa_cons (pv 5) (pa_cons (pv 1) pa_nil))))) pa_nil)))) pss_nil)
      (C8.pss_cut (ps_if (pt_cmpR op_eq (pv 3) pe_str (nomark _)) (C8.pss_cut (ps_set (i := 4) sc_p_runs_statement.nd rfl (.inl rfl) (pe_ifExp (pt_cmpR (op_eqD hr.units) (pe_call (ok_p_next_choice T) (hr.mono (by omega)) (by rfl) T.g_p_next_choice T.F_p_next_choice.kp T.b_p_next_choice .nil pass0 (pa_cons (pv 2) pa_nil)) (C8.pe_gc (by rfl) T.c_ZERO) (nomark _)) (pe_ix ix_tup (pv 0) pe_int (fun _ _ => rfl)) (pe_ix ix_tup (pv 0) pe_int (fun _ _ => rfl))))
      (pss_one (ps_ret (pe_call G (hr.mono (by omega)) (by rfl) T.g_p_runs T.F_p_runs.kp T.b_p_runs .nil pass0 (pa_cons (pv 4) (pa_cons (pv 1) (pa_cons (pv 2) pa_nil))))))) pss_nil)
      (pss_one (ps_ret (pe_call G (hr.mono (by omega)) (by rfl) T.g_p_runs T.F_p_runs.kp T.b_p_runs .nil pass0 (pa_cons (pe_op op_repA (pe_ix ix_tup (pv 0) pe_int (fun _ _ => rfl)) (pe_ix ix_tup (pv 0) pe_int (fun _ _ => rfl))) (pa_cons (pv 1) (pa_cons (pv 2) pa_nil))))))))))), ?_⟩
    obtain ⟨kvs, hkd, hR⟩ := S0.rd
    obtain ⟨us, hus, hps⟩ := S0.cl
    have dn : d ≠ cl := fun e => by
      rw [e, hus] at hkd
      cases hkd
    have clk : ∀ (b : Nat), b ≤ 100 → b ≤ 1000 := fun b h => by omega
    cases p with
    | nil => cases hp
    | set x f g r =>
      cases hp
      obtain ⟨sp, vf, vg, rfl, hsp, hf, hg⟩ := set_inv hv
      refine ⟨fun σ G1 => H = G1 ∧ σ = [some (.ref sp), some (.ref d), some (.ref cl), some (.str (Str.ofString "set")), none, none], ⟨_, rfl, sp, _, _, _, rfl, rfl, SqT.of hsp, rfl, rfl, rfl⟩, fun σ G1 hM => ?_⟩
      obtain ⟨rfl, rfl⟩ := hM
      refine ⟨fun _ _ => False, ?_, fun _ _ hM => hM.elim⟩
      refine ⟨_, rfl, rfl, _, rfl, iteT' (decide_eq_true rfl) ?_⟩
      have e : go (one (.set x f g r)) s = setS x f g s := bind_go_nil _
      rw [e] at q
      have hk : k + (1 + 0) ≤ 40 := hk
      exact ⟨_, rfl, _, rfl, _, rfl, sp, d, cl, z, _, vf, vg, x, f, g, ws, s, k, rfl, hsp, hf, hg, ok.1.1, ok.1.2.1, ok.1.2.2, S0, by omega, hwl, q⟩
    | any x r =>
      cases hp
      obtain ⟨sp, rfl, hsp⟩ := any_inv hv
      refine ⟨fun σ G1 => H = G1 ∧ σ = [some (.ref sp), some (.ref d), some (.ref cl), some (.str (Str.ofString "any")), none, none], ⟨_, rfl, sp, _, _, _, rfl, rfl, SqT.of hsp, rfl, rfl, rfl⟩, fun σ G1 hM => ?_⟩
      obtain ⟨rfl, rfl⟩ := hM
      refine ⟨fun σ G1 => H = G1 ∧ σ = [some (.ref sp), some (.ref d), some (.ref cl), some (.str (Str.ofString "any")), none, none], ⟨_, rfl, rfl, _, rfl, iteF' (decide_eq_false fun e => absurd (V.str.inj e) (by decide +kernel)) ⟨rfl, rfl⟩⟩, fun σ G1 hM => ?_⟩
      obtain ⟨rfl, rfl⟩ := hM
      refine ⟨fun _ _ => False, ?_, fun _ _ hM => hM.elim⟩
      refine ⟨_, rfl, rfl, _, rfl, iteT' (decide_eq_true rfl) ?_⟩
      refine ⟨fun σ G4 => Two d cl H G4 ∧ RD K G4 d ws (setV s.1 x (nxF s.2)) ∧ CL K G4 cl s.2.tail, ?_, fun σ G4 hM => ?_⟩
      · refine ⟨_, rfl, cl, s.2, rfl, ⟨us, hus, hps⟩, S0.ln, fun p0 G3 b1 hcl hp0 => ?_⟩
        have tr := b1.tr (K := K) hus
        have hkd3 := b1 _ _ dn hkd
        have hkl : kvs.length < sizeLine := by
          rw [hR.len]
          exact small1000 (by omega)
        refine ⟨_, rfl, _, rfl, sp, _, _, _, rfl, rfl, SqT.of (tr.2 _ _ hsp), rfl, d, _, rfl, DPut.k (k := keyOf x) hkd3 hkl, (Two.of1 b1).trans Two.updD, ⟨_, upd_same, ?_⟩, ?_⟩
        · exact ((hR.mono tr).putV hp0 ok.1).mono (Tr.updD hkd3)
        · obtain ⟨us3, hu3, hp3⟩ := hcl
          refine ⟨us3, ?_, pair_imp (fun _ _ ⟨p, e, h⟩ => ⟨p, e, h.tr (Tr.updD hkd3)⟩) hp3⟩
          rw [upd_ne dn.symm]
          exact hu3
      · obtain ⟨two4, hrd4, hcl4⟩ := hM
        exact q G4 two4 (fun t ht => by cases ht; exact ⟨hrd4, hcl4⟩)
    | chk ts r =>
      cases hp
      obtain ⟨sp, vt, rfl, hsp, ht⟩ := two_inv hv
      refine ⟨fun σ G1 => H = G1 ∧ σ = [some (.ref sp), some (.ref d), some (.ref cl), some (.str (Str.ofString "check")), none, none], ⟨_, rfl, sp, _, _, _, rfl, rfl, SqT.of hsp, rfl, rfl, rfl⟩, fun σ G1 hM => ?_⟩
      obtain ⟨rfl, rfl⟩ := hM
      refine ⟨fun σ G1 => H = G1 ∧ σ = [some (.ref sp), some (.ref d), some (.ref cl), some (.str (Str.ofString "check")), none, none], ⟨_, rfl, rfl, _, rfl, iteF' (decide_eq_false fun e => absurd (V.str.inj e) (by decide +kernel)) ⟨rfl, rfl⟩⟩, fun σ G1 hM => ?_⟩
      obtain ⟨rfl, rfl⟩ := hM
      refine ⟨fun σ G1 => H = G1 ∧ σ = [some (.ref sp), some (.ref d), some (.ref cl), some (.str (Str.ofString "check")), none, none], ⟨_, rfl, rfl, _, rfl, iteF' (decide_eq_false fun e => absurd (V.str.inj e) (by decide +kernel)) ⟨rfl, rfl⟩⟩, fun σ G1 hM => ?_⟩
      obtain ⟨rfl, rfl⟩ := hM
      refine ⟨fun _ _ => False, ?_, fun _ _ hM => hM.elim⟩
      refine ⟨_, rfl, rfl, _, rfl, iteT' (decide_eq_true rfl) ?_⟩
      obtain ⟨P0, xs, rfl, gt, hts⟩ : ∃ P0 xs, vt = .ref P0 ∧ H P0 = some (.tup xs) ∧ DtAll z H xs (ts.map tkD) := by
        cases ht with
        | tup g hs => exact ⟨_, _, rfl, g, hs⟩
      have tl : ts.length ≤ 2 := ok.1.1
      refine ⟨_, rfl, sp, _, _, _, rfl, rfl, SqT.of hsp, rfl, P0, rfl, ⟨_, SqT.of gt⟩, fun D nD => ?_⟩
      refine lc_tup (K := K) (a := P0) (xs := xs) (fun i H2 => Same H H2 ∧ H2 D = some (.lst (((ts.take i).map (kpt s.1)).map V.bl))) ⟨same_upd nD, upd_same⟩ (fun i H2 _ hq => SqT.of (hq.1 _ _ gt)) (fun i x H2 hx hq => ?_) (fun H2 hq => ?_)
      · obtain ⟨dd, hd, hdt⟩ := DtAll.at i hts hx
        rw [List.getElem?_map] at hd
        obtain ⟨t, he, rfl⟩ := Option.map_eq_some_iff.mp hd
        refine ⟨rfl, _, rfl, _, rfl, x, d, z, t, ws, s.1, k, rfl, hdt.same hq.1, ok.1.2 t (List.mem_of_getElem? he), S0.rd.same hq.1, S0.lv, by omega, fun H3 s3 => ?_⟩
        refine ⟨_, s3 _ _ hq.2, ?_, ?_, ?_⟩
        · rw [List.length_map, List.length_map, List.length_take]
          exact small1000 (by omega)
        · exact fun b o e => by
            rw [upd_ne (ne_of_none e nD)]
            exact (hq.1.trans s3) b o e
        · rw [upd_same, List.take_add_one, he, List.map_append, List.map_append]
          rfl
      · have xl := hts.len
        rw [List.length_map] at xl
        rw [xl, List.take_length] at hq
        have e : go (one (.chk ts r)) s = if ts.all (kpt s.1) = true then some s else none := rfl
        have b : ((ts.map (kpt s.1)).all id) = (go (one (.chk ts r)) s).isSome := by
          rw [e, List.all_map]
          show ts.all (kpt s.1) = _
          cases ts.all (kpt s.1) <;> rfl
        refine ⟨D, _, rfl, .inl (.inl hq.2), ?_⟩
        show Q (V.bl ((ts.map (kpt s.1)).all id)) H2
        rw [b]
        refine q H2 (Two.of hq.1) (fun t ht => ?_)
        rw [e] at ht
        split at ht
        · cases ht
          exact ⟨S0.rd.same hq.1, S0.cl.same hq.1⟩
        · cases ht
    | eit p1 p2 r =>
      cases hp
      obtain ⟨sp, va, vb, rfl, hsp, ha, hb⟩ := three_inv hv
      refine ⟨fun σ G1 => H = G1 ∧ σ = [some (.ref sp), some (.ref d), some (.ref cl), some (.str (Str.ofString "either")), none, none], ⟨_, rfl, sp, _, _, _, rfl, rfl, SqT.of hsp, rfl, rfl, rfl⟩, fun σ G1 hM => ?_⟩
      obtain ⟨rfl, rfl⟩ := hM
      refine ⟨fun σ G1 => H = G1 ∧ σ = [some (.ref sp), some (.ref d), some (.ref cl), some (.str (Str.ofString "either")), none, none], ⟨_, rfl, rfl, _, rfl, iteF' (decide_eq_false fun e => absurd (V.str.inj e) (by decide +kernel)) ⟨rfl, rfl⟩⟩, fun σ G1 hM => ?_⟩
      obtain ⟨rfl, rfl⟩ := hM
      refine ⟨fun σ G1 => H = G1 ∧ σ = [some (.ref sp), some (.ref d), some (.ref cl), some (.str (Str.ofString "either")), none, none], ⟨_, rfl, rfl, _, rfl, iteF' (decide_eq_false fun e => absurd (V.str.inj e) (by decide +kernel)) ⟨rfl, rfl⟩⟩, fun σ G1 hM => ?_⟩
      obtain ⟨rfl, rfl⟩ := hM
      refine ⟨fun σ G1 => H = G1 ∧ σ = [some (.ref sp), some (.ref d), some (.ref cl), some (.str (Str.ofString "either")), none, none], ⟨_, rfl, rfl, _, rfl, iteF' (decide_eq_false fun e => absurd (V.str.inj e) (by decide +kernel)) ⟨rfl, rfl⟩⟩, fun σ G1 hM => ?_⟩
      obtain ⟨rfl, rfl⟩ := hM
      refine ⟨fun _ _ => False, ?_, fun _ _ hM => hM.elim⟩
      refine ⟨_, rfl, rfl, _, rfl, iteT' (decide_eq_true rfl) ?_⟩
      cases n with
      | zero =>
        have hd : max (max (dep p1 + 1) (dep p2 + 1)) 0 ≤ 0 := hdep
        omega
      | succ n =>
      have hd : max (max (dep p1 + 1) (dep p2 + 1)) 0 ≤ n + 1 := hdep
      have hk : k + (max (cnt p1) (cnt p2) + 0) ≤ 40 := hk
      have eg : go (one (.eit p1 p2 r)) s = (if (nxF s.2).1 = 0 then go p1 (s.1, s.2.tail) else go p2 (s.1, s.2.tail)) := bind_go_nil _
      rw [eg] at q
      have nc := nx_ch S0.ch
      have St : ∀ G4, But1 cl H G4 → CL K G4 cl s.2.tail → St0 K d cl ws k G4 (s.1, s.2.tail) := fun G4 b1 c => ⟨⟨kvs, b1 _ _ dn hkd, hR.mono (b1.tr hus)⟩, c, S0.lv, tl_ch S0.ch, by have := S0.ln; show s.2.tail.length ≤ 100; rw [List.length_tail]; omega⟩
      refine ⟨fun σ G4 => But1 cl H G4 ∧ CL K G4 cl s.2.tail ∧ σ = [some (.ref sp), some (.ref d), some (.ref cl), some (.str (Str.ofString "either")), some (if (nxF s.2).1 = 0 then va else vb), none], ?_, fun σ G4 hM => ?_⟩
      · refine ⟨_, rfl, cl, s.2, rfl, ⟨us, hus, hps⟩, S0.ln, fun p0 G3 b1 hcl hp0 => ?_⟩
        have tr := b1.tr (K := K) hus
        refine ⟨frP (nxF s.2), frP (0, 1), .tup hp0.1 (.cons (.int _) (.cons (.int _) .nil)), .tup (T.z_ZERO _) (.cons (.int _) (.cons (.int _) .nil)), rfl, rfl, _, rfl, ?_⟩
        rw [eqv_pair]
        by_cases hz : nxF s.2 = (0, 1)
        · refine iteT' (decide_eq_true hz) ⟨_, rfl, sp, _, _, _, rfl, rfl, SqT.of (tr.2 _ _ hsp), rfl, b1, hcl, ?_⟩
          rw [if_pos ((nx_zero nc).mp hz)]
          rfl
        · refine iteF' (decide_eq_false hz) ⟨_, rfl, sp, _, _, _, rfl, rfl, SqT.of (tr.2 _ _ hsp), rfl, b1, hcl, ?_⟩
          rw [if_neg (fun e => hz ((nx_zero nc).mpr e))]
          rfl
      · obtain ⟨b1, hcl, rfl⟩ := hM
        have tt := (Two.of1 (d := d) b1).tt hkd hus
        by_cases hz : (nxF s.2).1 = 0
        · rw [if_pos hz] at q
          simp only [if_pos hz]
          exact ⟨_, rfl, _, rfl, _, rfl, va, d, cl, z, p1, ws, _, k, rfl, Dt.tups tt _ _ (noLs_pg p1) ha, ok.1.1, by omega, St G4 b1 hcl, by omega, hwl, fun G5 h5 k5 => q G5 ((Two.of1 b1).trans h5) k5⟩
        · rw [if_neg hz] at q
          simp only [if_neg hz]
          exact ⟨_, rfl, _, rfl, _, rfl, vb, d, cl, z, p2, ws, _, k, rfl, Dt.tups tt _ _ (noLs_pg p2) hb, ok.1.2, by omega, St G4 b1 hcl, by omega, hwl, fun G5 h5 k5 => q G5 ((Two.of1 b1).trans h5) k5⟩
    | rep m p1 r =>
      cases hp
      obtain ⟨sp, va, vb, rfl, hsp, ha, hb⟩ := three_inv hv
      refine ⟨fun σ G1 => H = G1 ∧ σ = [some (.ref sp), some (.ref d), some (.ref cl), some (.str (Str.ofString "repeat")), none, none], ⟨_, rfl, sp, _, _, _, rfl, rfl, SqT.of hsp, rfl, rfl, rfl⟩, fun σ G1 hM => ?_⟩
      obtain ⟨rfl, rfl⟩ := hM
      refine ⟨fun σ G1 => H = G1 ∧ σ = [some (.ref sp), some (.ref d), some (.ref cl), some (.str (Str.ofString "repeat")), none, none], ⟨_, rfl, rfl, _, rfl, iteF' (decide_eq_false fun e => absurd (V.str.inj e) (by decide +kernel)) ⟨rfl, rfl⟩⟩, fun σ G1 hM => ?_⟩
      obtain ⟨rfl, rfl⟩ := hM
      refine ⟨fun σ G1 => H = G1 ∧ σ = [some (.ref sp), some (.ref d), some (.ref cl), some (.str (Str.ofString "repeat")), none, none], ⟨_, rfl, rfl, _, rfl, iteF' (decide_eq_false fun e => absurd (V.str.inj e) (by decide +kernel)) ⟨rfl, rfl⟩⟩, fun σ G1 hM => ?_⟩
      obtain ⟨rfl, rfl⟩ := hM
      refine ⟨fun σ G1 => H = G1 ∧ σ = [some (.ref sp), some (.ref d), some (.ref cl), some (.str (Str.ofString "repeat")), none, none], ⟨_, rfl, rfl, _, rfl, iteF' (decide_eq_false fun e => absurd (V.str.inj e) (by decide +kernel)) ⟨rfl, rfl⟩⟩, fun σ G1 hM => ?_⟩
      obtain ⟨rfl, rfl⟩ := hM
      refine ⟨fun σ G1 => H = G1 ∧ σ = [some (.ref sp), some (.ref d), some (.ref cl), some (.str (Str.ofString "repeat")), none, none], ⟨_, rfl, rfl, _, rfl, iteF' (decide_eq_false fun e => absurd (V.str.inj e) (by decide +kernel)) ⟨rfl, rfl⟩⟩, fun σ G1 hM => ?_⟩
      obtain ⟨rfl, rfl⟩ := hM
      cases n with
      | zero =>
        have hd : max (dep p1 + 1) 0 ≤ 0 := hdep
        omega
      | succ n =>
      have hd : max (dep p1 + 1) 0 ≤ n + 1 := hdep
      have hk : k + (m * cnt p1 + 0) ≤ 40 := hk
      have eg : go (one (.rep m p1 r)) s = go (repP p1 m) s := by
        rw [go_rep]
        exact bind_go_nil _
      rw [eg] at q
      have m4 : m ≤ 4 := ok.1.1
      have l10 : lnP p1 ≤ 10 := ok.1.2.1
      have dr := dep_rep p1 m
      have cr := cnt_rep p1 m
      obtain ⟨P0, xs, rfl, gt, hts⟩ : ∃ P0 xs, vb = .ref P0 ∧ H P0 = some (.tup xs) ∧ DtAll z H xs (pgL p1) := by
        cases hb with
        | tup g hs => exact ⟨_, _, rfl, g, hs⟩
      cases ha
      have xl := hts.len
      rw [pgL_len] at xl
      have all := all_rep hts m
      rw [← pgL_rep] at all
      have run : ∀ (a : Addr) (G4 : Hp), Same H G4 → Dt z G4 (.ref a) (.tuple (pgL (repP p1 m))) → spRuns K n [.ref a, .ref d, .ref cl] G4 Q E := fun a G4 s4 h4 =>
        ⟨_, d, cl, z, repP p1 m, ws, s, k, rfl, h4, ok_rep ok.1.2.2 m, by omega, ⟨S0.rd.same s4, S0.cl.same s4, S0.lv, S0.ch, S0.ln⟩, by omega, hwl, fun G5 h5 k5 => q G5 ((Two.of s4).trans h5) k5⟩
      refine ⟨_, rfl, sp, _, _, _, rfl, rfl, SqT.of hsp, rfl, _, rfl, sp, _, _, _, rfl, rfl, SqT.of hsp, rfl, P0, (m : Int), xs, rfl, rfl, SqT.of gt, by omega, by omega, by omega, fun h => ?_, fun p0 no => ?_⟩
      · refine ⟨_, rfl, _, rfl, run P0 H (Same.refl _) (.tup gt ?_)⟩
        have e : (List.replicate m xs).flatten = xs := by
          rcases h with h | h
          · subst h
            exact List.flatten_eq_nil_iff.mpr (fun l hl => List.eq_of_mem_replicate hl)
          · have : m = 1 := by omega
            subst this
            show xs ++ [] = xs
            rw [List.append_nil]
        rw [e] at all
        exact all
      · exact ⟨_, rfl, _, rfl, run p0 _ (same_upd no) (.tup upd_same (all.same (same_upd no)))⟩
end
/-! ### a run -/
theorem ok_one {ws : List Nm} {p : Pg} (h : PgOk ws p) : PgOk ws (one p) ∧ PgOk ws (rst p) := by
  cases p with
  | nil => exact ⟨trivial, trivial⟩
  | set x f g r => exact ⟨⟨h.1, trivial⟩, h.2⟩
  | any x r => exact ⟨⟨h.1, trivial⟩, h.2⟩
  | chk ts r => exact ⟨⟨h.1, trivial⟩, h.2⟩
  | eit p q r => exact ⟨⟨h.1, trivial⟩, h.2⟩
  | rep n p r => exact ⟨⟨h.1, trivial⟩, h.2⟩
theorem cnt_one (p : Pg) : cnt (one p) + cnt (rst p) = cnt p := by
  cases p with
  | nil => rfl
  | set x f g r => rfl
  | any x r => show 0 + cnt r = cnt r; omega
  | chk ts r => show 0 + cnt r = cnt r; omega
  | eit p q r => rfl
  | rep n p r => rfl
theorem dep_one (p : Pg) : dep (one p) ≤ dep p ∧ dep (rst p) ≤ dep p := by
  cases p with
  | nil => exact ⟨Nat.le_refl _, Nat.le_refl _⟩
  | set x f g r => exact ⟨Nat.zero_le _, Nat.le_refl _⟩
  | any x r => exact ⟨Nat.zero_le _, Nat.le_refl _⟩
  | chk ts r => exact ⟨Nat.zero_le _, Nat.le_refl _⟩
  | eit p q r =>
    show max (max (dep p + 1) (dep q + 1)) 0 ≤ max (max (dep p + 1) (dep q + 1)) (dep r) ∧ dep r ≤ max (max (dep p + 1) (dep q + 1)) (dep r)
    omega
  | rep n p r =>
    show max (dep p + 1) 0 ≤ max (dep p + 1) (dep r) ∧ dep r ≤ max (dep p + 1) (dep r)
    omega
theorem pgL_one {p : Pg} {D : PyData} {R : List PyData} (h : pgL p = D :: R) : pgL (rst p) = R := by
  cases p with
  | nil => cases h
  | set x f g r => exact (List.cons.inj h).2
  | any x r => exact (List.cons.inj h).2
  | chk ts r => exact (List.cons.inj h).2
  | eit p q r => exact (List.cons.inj h).2
  | rep n p r => exact (List.cons.inj h).2
theorem itr_ln {f : Sta → Option Sta} (hf : ∀ s t : Sta, f s = some t → t.2.length ≤ s.2.length) : ∀ (m : Nat) (s t : Sta), itr f m s = some t → t.2.length ≤ s.2.length
  | 0, s, t, h => by
    cases h
    exact Nat.le_refl _
  | m + 1, s, t, h => by
    have h : (f s).bind (itr f m) = some t := h
    cases e : f s with
    | none =>
      rw [e] at h
      cases h
    | some u =>
      rw [e] at h
      have a := hf s u e
      have b := itr_ln hf m u t h
      omega
theorem go_ln : ∀ (p : Pg) (s t : Sta), go p s = some t → t.2.length ≤ s.2.length
  | .nil, s, t, h => by
    cases h
    exact Nat.le_refl _
  | .set x f g r, s, t, h => by
    have h : (setS x f g s).bind (go r) = some t := h
    unfold setS at h
    split at h
    · cases h
    · have a := go_ln r _ t h
      have a : t.2.length ≤ s.2.tail.length := a
      rw [List.length_tail] at a
      omega
  | .any x r, s, t, h => by
    have a : t.2.length ≤ s.2.tail.length := go_ln r _ t h
    rw [List.length_tail] at a
    omega
  | .chk ts r, s, t, h => by
    have h : (if ts.all (kpt s.1) = true then go r s else none) = some t := h
    split at h
    · exact go_ln r s t h
    · cases h
  | .eit p q r, s, t, h => by
    have h : (if (nxF s.2).1 = 0 then go p (s.1, s.2.tail) else go q (s.1, s.2.tail)).bind (go r) = some t := h
    split at h
    · cases e : go p (s.1, s.2.tail) with
      | none =>
        rw [e] at h
        cases h
      | some u =>
        rw [e] at h
        have a : u.2.length ≤ s.2.tail.length := go_ln p _ u e
        have b := go_ln r u t h
        rw [List.length_tail] at a
        omega
    · cases e : go q (s.1, s.2.tail) with
      | none =>
        rw [e] at h
        cases h
      | some u =>
        rw [e] at h
        have a : u.2.length ≤ s.2.tail.length := go_ln q _ u e
        have b := go_ln r u t h
        rw [List.length_tail] at a
        omega
  | .rep n p r, s, t, h => by
    have h : (itr (go p) n s).bind (go r) = some t := h
    cases e : itr (go p) n s with
    | none =>
      rw [e] at h
      cases h
    | some u =>
      rw [e] at h
      have a := itr_ln (fun s t => go_ln p s t) n s u e
      have b := go_ln r u t h
      omega
theorem go_st {K : PySem.W.Frag} {d cl : Addr} {ws : List Nm} {k : Nat} {H H' : Hp} {s t : Sta} {p : Pg} (ok : PgOk ws p) (S : St0 K d cl ws k H s) (h : go p s = some t) (h' : RD K H' d ws t.1 ∧ CL K H' cl t.2) : St0 K d cl ws (k + cnt p) H' t :=
  let l := go_lv p ok k s t h S.lv S.ch
  ⟨h'.1, h'.2, l.1, l.2, Nat.le_trans (go_ln p s t h) S.ln⟩
section
variable {P : Program} {w : World} {K : PySem.W.Frag} {mg : Str → Option Value} {base : Heap} {fa : Nat → Addr} {fd : Nat → FuncData}
theorem runs_step (T : Txt K mg fa fd) (n : Nat) (G : FnOk P w K mg base CX0 (2 * n + 7) (fa 23) (fd 23) ["statement", "values", "choices"] (spStmt K n)) : FnOk P w K mg base CX0 (2 * n + 8) (fa 24) (fd 24) ["program", "values", "choices"] (spR K (n + 1)) := by
  refine T.F_p_runs.ok sc_p_runs (fun vs H Q E h => ?_) (fun cdv A outer s0 H vs Q E hr h => ?_)
  · obtain ⟨vp, d, cl, z, p, ws, s, k, rfl, _⟩ := h
    rfl
  · obtain ⟨vp, d, cl, z, p, ws, s, k, rfl, hp, ok, hdep, S0, hk, hwl, q⟩ := h
    refine ⟨_, (C8.pss_cut (ps_for PassesOwn.never rfl (pi_tup (pv 0)) (pg_name (i := 3) sc_p_runs.nd rfl (.inl rfl)) (pss_one (ps_if (pt_not (pt_val (pe_call G (hr.mono (by omega)) (by rfl) T.g_p_runs_statement T.F_p_runs_statement.kp T.b_p_runs_statement .nil pass0 (pa_cons (pv 3) (pa_cons (pv 1) (pa_cons (pv 2) pa_nil)))))) (pss_one (ps_ret pe_bl)) pss_nil)))
      (pss_one (ps_ret pe_bl))), ?_⟩
    obtain ⟨P0, xs, rfl, gt, hts⟩ : ∃ P0 xs, vp = .ref P0 ∧ H P0 = some (.tup xs) ∧ DtAll z H xs (pgL p) := by
      cases hp with
      | tup g hs => exact ⟨_, _, rfl, g, hs⟩
    obtain ⟨kvs, hkd, _⟩ := S0.rd
    obtain ⟨us, hus, _⟩ := S0.cl
    have TTo : ∀ G, Two d cl H G → TT H G := fun G h => h.tt hkd hus
    refine ⟨fun σ G1 => Two d cl H G1 ∧ ∃ t y3, go p s = some t ∧ RD K G1 d ws t.1 ∧ CL K G1 cl t.2 ∧ σ = [some (.ref P0), some (.ref d), some (.ref cl), y3], ?_, fun σ G1 hM => ?_⟩
    · refine ⟨_, rfl, P0, rfl, ⟨_, SqT.of gt⟩, for_tup (K := K) (a := P0) (xs := xs) (fun i σ G1 => Two d cl H G1 ∧ ∃ (pi : Pg) (si : Sta) (ki : Nat) (y3 : Option V), pgL pi = (pgL p).drop i ∧ PgOk ws pi ∧ dep pi ≤ n ∧ St0 K d cl ws ki G1 si ∧ ki + cnt pi ≤ 40 ∧ go p s = go pi si ∧ σ = [some (.ref P0), some (.ref d), some (.ref cl), y3]) ⟨Two.of (Same.refl _), p, s, k, _, rfl, ok, hdep, S0, hk, rfl, rfl⟩ (fun i σ G1 _ hq => SqT.of (TTo _ hq.1 _ _ gt)) (fun i x σ G1 hx hq => ?_) (fun σ G1 hq => ?_)⟩
      · obtain ⟨tw, pi, si, ki, y3, hpi, oki, di, Si, ci, gi, rfl⟩ := hq
        obtain ⟨D, hd, hdt⟩ := DtAll.at i hts hx
        have hc : pgL pi = D :: (pgL p).drop (i + 1) := by
          obtain ⟨hl, he⟩ := List.getElem?_eq_some_iff.mp hd
          rw [hpi, List.drop_eq_getElem_cons hl, he]
        have co := cnt_one pi
        have dn := dep_one pi
        have nl : noL D = true := by
          have := noLs_pg pi
          rw [hc] at this
          have this : (noL D && noLs ((pgL p).drop (i + 1))) = true := this
          exact (Bool.and_eq_true_iff.mp this).1
        refine ⟨_, rfl, _, rfl, _, rfl, x, d, cl, z, pi, D, _, ws, si, ki, rfl, hc, Dt.tups (TTo _ tw) _ _ nl hdt, (ok_one oki).1, by omega, Si, by omega, hwl, fun G5 h5 k5 => ?_⟩
        have g1 := go_one pi si
        have tw5 := tw.trans h5
        cases e : go (one pi) si with
        | none =>
          rw [e] at g1
          refine ⟨_, rfl, iteT' rfl ?_⟩
          have e0 : go p s = none := gi.trans g1
          rw [e0] at q
          exact q G5 tw5 (fun t2 e2 => by cases e2)
        | some t =>
          rw [e] at g1
          refine ⟨_, rfl, iteF' rfl ⟨tw5, rst pi, t, ki + cnt (one pi), _, pgL_one hc, (ok_one oki).2, by omega, go_st (ok_one oki).1 Si e (k5 t e), by omega, gi.trans g1, rfl⟩⟩
      · obtain ⟨tw, pi, si, ki, y3, hpi, oki, di, Si, ci, gi, rfl⟩ := hq
        have xl := hts.len
        rw [xl, List.drop_length] at hpi
        refine ⟨tw, si, y3, ?_, Si.rd, Si.cl, rfl⟩
        rw [gi]
        cases pi with
        | nil => rfl
        | set x f g r => cases hpi
        | any x r => cases hpi
        | chk ts r => cases hpi
        | eit p q r => cases hpi
        | rep n p r => cases hpi
    · obtain ⟨tw, t, y3, e, hr1, hc1, rfl⟩ := hM
      rw [e] at q
      exact q G1 tw (fun t2 e2 => by cases e2; exact ⟨hr1, hc1⟩)
theorem runs_all (T : Txt K mg fa fd) : ∀ n, FnOk P w K mg base CX0 (2 * n + 6) (fa 24) (fd 24) ["program", "values", "choices"] (spR K n)
  | 0 => T.F_p_runs.ok sc_p_runs (fun vs H Q E h => h.elim) (fun cdv A outer s0 H vs Q E hr h => h.elim)
  | n + 1 => runs_step T n (stmt_step T n (runs_all T n))
end
section
variable {P : Program} {w : World} {K : PySem.W.Frag} {mg : Str → Option Value} {base : Heap} {fa : Nat → Addr} {fd : Nat → FuncData}
/-! ### run_program -/
theorem ok_p_runs (T : Txt K mg fa fd) : FnOk P w K mg base CX0 14 (fa 24) (fd 24) ["program", "values", "choices"] (spR K 4) := runs_all T 4
theorem star_ok2 {x : Str} {st : Stmt} {f : Addr} {fdd : FuncData} {N : List Str} {pv a b : Str} {k : Nat} {sp : Sp} (F : Fun K x x st f fdd) (S : FnScope N [a, b, pv] (defScope st))
    (hb : ∀ (kV doc pm : Value) (an : Option Addr) (cdv ct : Value) (u v : Value) (rest : List Value), bindArgs (PySem.W.fnOf x x (defArgs st) (defBody st) (defScope st) .none kV doc pm an cdv ct) ⟨u :: v :: rest, []⟩ = (newTuple rest >>= fun t => pure [(a, u), (b, v), (pv, t)]))
    (hbody : ∀ (cdv : Value) (A : Around) (outer : List Env) (s : Shared) (H : Hp) (vs : List V) (Q : VK) (E : XK), Room k (A.deeper (envOfC x (defScope st) s.heap.objs.size f cdv)) → sp vs H Q E →
      ∃ t, PSs (cxOf CX0 P w K mg base N x (defScope st) f cdv A outer s H E).nox (defBody st) t ∧ t { nx := fun _ H' => Q .non H', rt := Q } (start N vs) H) :
    FnR P w K mg base CX0 (k + 1) f (fun vs H Q E => ∃ y z rest, vs = y :: z :: rest ∧ rest.length ≤ sizeLine ∧ ∀ p, H p = none → sp [y, z, .ref p] (upd H p (.tup rest)) Q E) := by
  obtain ⟨oc, od, kV, doc, pm, an, cdv, ct, osl, rfl, lk, hcd⟩ := F.ex
  refine FnR.imp (StX.fn_star (ps := [a, b]) (pv := pv) (sp := sp) lk hcd S StX.cxUp_none (fun us rest hl => ?_) fun A outer s H vs Q E hr hsp => ?_) fun vs H Q E ⟨y, z, rest, e, h1, h2⟩ => ⟨[y, z], rest, e, rfl, h1, h2⟩
  · match us, hl with
    | [u, v], _ => exact hb kV doc pm an cdv ct u v rest
  · obtain ⟨t, h, q⟩ := hbody cdv A outer s H vs Q E hr hsp
    exact ⟨t, h.nox, q⟩
/-- what run_program gives -/
def RunPost (K : PySem.W.Frag) (ws : List Nm) (H : Hp) (o : Option Sta) (Q : VK) : Prop :=
  (o = none → ∀ H', Same H H' → Q .non H') ∧ ∀ s, o = some s → ∀ d H', Same H H' → H d = none → RD K H' d ws s.1 → Q (.ref d) H'
def spRp (K : PySem.W.Frag) : Sp := fun vs H Q _ => ∃ (vp : V) (d0 z cp : Addr) (p : Pg) (ws : List Nm) (s : Sta) (us : List V), vs = [vp, .ref d0, .ref cp] ∧ Dt z H vp (.tuple (pgL p)) ∧ PgOk ws p ∧ dep p ≤ 3 ∧ RD K H d0 ws s.1 ∧ Vl 0 ws s.1 ∧ H cp = some (.tup us) ∧ Paired (fun u f => ∃ p, u = V.ref p ∧ FrV K H p f) us s.2 ∧ (∀ x ∈ s.2, x ∈ CH) ∧ s.2.length ≤ 100 ∧ cnt p ≤ 40 ∧ ws.length ≤ 100 ∧ RunPost K ws H (go p s) Q
theorem ok_p_run_program (T : Txt K mg fa fd) : FnR P w K mg base CX0 16 (fa 25) (fun vs H Q E => ∃ y z rest, vs = y :: z :: rest ∧ rest.length ≤ sizeLine ∧ ∀ p, H p = none → spRp K [y, z, .ref p] (upd H p (.tup rest)) Q E) := by
  refine star_ok2 T.F_p_run_program sc_p_run_program (fun _ _ _ _ _ _ u v rest => by cases rest <;> rfl) fun cdv A outer s0 H vs Q E hr h => ?_
  obtain ⟨vp, d0, z, cp, p, ws, s, us, rfl, hp, ok, hdep, hrd, hvl, hcp, hps, hch, hln, hk, hwl, q⟩ := h
  refine ⟨_, (C8.pss_cut (ps_set (i := 3) sc_p_run_program.nd rfl (.inl rfl) (pe_callTy call_dictD (by rfl) T.m_dict (by decide +kernel) (pa_cons (pv 1) pa_nil)))
      (pss_one (ps_ret (pe_ifExp (pt_val (pe_call (ok_p_runs T) (hr.mono (by decide)) (by rfl) T.g_p_runs T.F_p_runs.kp T.b_p_runs .nil pass0 (pa_cons (pv 0) (pa_cons (pv 3) (pa_cons (pe_callTy call_list_of (by rfl) T.m_list (by decide +kernel) (pa_cons (pv 2) pa_nil)) pa_nil))))) (pv 3) pe_non)))), ?_⟩
  obtain ⟨kvs, hkd, hR⟩ := hrd
  refine ⟨fun σ G => ∃ D, H D = none ∧ G = upd H D (.dK kvs) ∧ σ = [some vp, some (.ref d0), some (.ref cp), some (.ref D)], ?_, fun σ G hM => ?_⟩
  · exact ⟨_, rfl, d0, kvs, rfl, .inl hkd, fun D nD => ⟨D, nD, rfl, rfl⟩⟩
  obtain ⟨D, nD, rfl, rfl⟩ := hM
  have sD : Same H (upd H D (.dK kvs)) := same_upd nD
  refine ⟨_, rfl, _, rfl, _, rfl, cp, us, rfl, .inr (SqT.of (sD _ _ hcp)), fun L nL => ?_⟩
  have sL : Same (upd H D (.dK kvs)) (upd (upd H D (.dK kvs)) L (.lst us)) := same_upd nL
  have s2 := sD.trans sL
  have nD2 : upd (upd H D (.dK kvs)) L (.lst us) D = some (.dK kvs) := sL _ _ upd_same
  refine ⟨vp, D, L, z, p, ws, s, 0, rfl, hp.same s2, ok, hdep, ⟨⟨kvs, nD2, hR.mono (Tr.sm s2)⟩, ⟨us, upd_same, pair_imp (fun _ _ ⟨p, e, k⟩ => ⟨p, e, k.tr (Tr.sm s2)⟩) hps⟩, hvl, hch, hln⟩, by omega, hwl, fun G h k => ?_⟩
  have sG : Same H G := fun b o e => h b o (fun z => by rw [z, nD] at e; cases e) (fun z => by rw [z] at e; rw [upd_ne (fun w => by rw [w, upd_same] at nL; cases nL)] at nL; rw [nL] at e; cases e) (s2 _ _ e)
  cases e : go p s with
  | none => exact ⟨_, rfl, iteF' rfl ((q.1 e) G sG)⟩
  | some t => exact ⟨_, rfl, iteT' rfl ⟨_, rfl, q.2 t e D G sG nD (k t e).1⟩⟩
end
section
variable {P : Program} {w : World} {K : PySem.W.Frag} {mg : Str → Option Value} {base : Heap} {fa : Nat → Addr} {fd : Nat → FuncData}
theorem small_log2 {v : Int} (h : v.natAbs ≤ 8000) : v.natAbs.log2 < 4096 := log2_mono (b := 8000) h (by decide +kernel)
theorem mid_of {m : Int} (h : 0 < m) (h2 : m ≤ 8000) : Mid m := ⟨h, Nat.lt_trans (small_log2 (by omega)) (by decide)⟩
theorem low_ratD {u v : Int} (hv : v ≠ 0) : ratD (.tuple [.int (lowT u v), .int (lowD u v)]) = true := by
  have h1 := lowD_pos (u := u) hv
  have h2 := low_gcd (u := u) hv
  show (decide (1 ≤ lowD u v) && decide (Int.gcd (lowT u v) (lowD u v) = 1)) = true
  rw [decide_eq_true (show 1 ≤ lowD u v by omega), decide_eq_true h2]
  rfl
theorem new_ne {H : Hp} {a c p : Addr} (h : FeedOk H a c) (n : H p = none) : p ≠ a := by
  obtain ⟨_, _, _, _, ha, _⟩ := h
  exact (ne_of_none ha n).symm
/-- a fraction -/
abbrev frD (t u : Int) : PyData := .tuple [.int t, .int u]
def RatAt (z : Addr) (H : Hp) (v : V) (t u : Int) : Prop := Dt z H v (frD t u) ∧ ratD (frD t u) = true
def spRate : Sp := fun vs H Q _ => ∃ (a c : Addr), vs = [.ref a] ∧ FeedOk H a c ∧ ∀ v t u H', FeedOk H' a c → But a H H' → RatAt a H' v t u → t ≠ 0 → t.natAbs ≤ 5 → u.natAbs ≤ 3 → Q v H'
theorem small_line' {n : Nat} (h : n ≤ 1000) : n ≤ sizeLine := small_line h
theorem ok_rate (T : Txt K mg fa fd) : FnOk P w K mg base CX0 3 (fa 37) (fd 37) ["_law_feed_here"] spRate := by
  refine T.F_rate.ok sc_rate (fun vs H Q E h => ?_) (fun cdv A outer s H vs Q E hr h => ?_)
  · obtain ⟨a, c, rfl, _⟩ := h
    rfl
  · obtain ⟨a, c, rfl, hF, q⟩ := h
    refine ⟨_, (pss_one (ps_ret (pe_call (ok_any T) (hr.mono (by decide)) (by rfl) T.g_any T.F_any.kp T.b_any .nil pass0 (pa_cons (pv 0) (pa_cons (pe_lst (pa_cons (pe_tup (pa_cons pe_int (pa_cons pe_int pa_nil))) (pa_cons (pe_tup (pa_cons (pe_un un_neg pe_int) (pa_cons pe_int pa_nil))) (pa_cons (pe_tup (pa_cons pe_int (pa_cons pe_int pa_nil))) (pa_cons (pe_tup (pa_cons pe_int (pa_cons pe_int pa_nil))) (pa_cons (pe_tup (pa_cons (pe_un un_neg pe_int) (pa_cons pe_int pa_nil))) (pa_cons (pe_tup (pa_cons pe_int (pa_cons pe_int pa_nil))) (pa_cons (pe_tup (pa_cons pe_int (pa_cons pe_int pa_nil))) (pa_cons (pe_tup (pa_cons (pe_un un_neg pe_int) (pa_cons pe_int pa_nil))) (pa_cons (pe_tup (pa_cons (pe_un un_neg pe_int) (pa_cons pe_int pa_nil))) (pa_cons (pe_tup (pa_cons pe_int (pa_cons pe_int pa_nil))) pa_nil))))))))))) pa_nil))))), ?_⟩
    refine ⟨_, rfl, (small_line (by decide : 2 ≤ 1000)), fun p1 n1 => ?_⟩
    obtain ⟨s1, d1⟩ := dnewT (z := a) n1 (.cons (.int 1 (by decide +kernel)) (.cons (.int 1 (by decide +kernel)) .nil))
    refine ⟨_, rfl, (small_line (by decide : 2 ≤ 1000)), fun p2 n2 => ?_⟩
    obtain ⟨s2, d2⟩ := dnewT (z := a) n2 (.cons (.int (-1) (by decide +kernel)) (.cons (.int 1 (by decide +kernel)) .nil))
    refine ⟨(small_line (by decide : 2 ≤ 1000)), fun p3 n3 => ?_⟩
    obtain ⟨s3, d3⟩ := dnewT (z := a) n3 (.cons (.int 1 (by decide +kernel)) (.cons (.int 1 (by decide +kernel)) .nil))
    refine ⟨(small_line (by decide : 2 ≤ 1000)), fun p4 n4 => ?_⟩
    obtain ⟨s4, d4⟩ := dnewT (z := a) n4 (.cons (.int 2 (by decide +kernel)) (.cons (.int 1 (by decide +kernel)) .nil))
    refine ⟨_, rfl, (small_line (by decide : 2 ≤ 1000)), fun p5 n5 => ?_⟩
    obtain ⟨s5, d5⟩ := dnewT (z := a) n5 (.cons (.int (-2) (by decide +kernel)) (.cons (.int 1 (by decide +kernel)) .nil))
    refine ⟨(small_line (by decide : 2 ≤ 1000)), fun p6 n6 => ?_⟩
    obtain ⟨s6, d6⟩ := dnewT (z := a) n6 (.cons (.int 3 (by decide +kernel)) (.cons (.int 1 (by decide +kernel)) .nil))
    refine ⟨(small_line (by decide : 2 ≤ 1000)), fun p7 n7 => ?_⟩
    obtain ⟨s7, d7⟩ := dnewT (z := a) n7 (.cons (.int 1 (by decide +kernel)) (.cons (.int 2 (by decide +kernel)) .nil))
    refine ⟨_, rfl, (small_line (by decide : 2 ≤ 1000)), fun p8 n8 => ?_⟩
    obtain ⟨s8, d8⟩ := dnewT (z := a) n8 (.cons (.int (-3) (by decide +kernel)) (.cons (.int 2 (by decide +kernel)) .nil))
    refine ⟨_, rfl, (small_line (by decide : 2 ≤ 1000)), fun p9 n9 => ?_⟩
    obtain ⟨s9, d9⟩ := dnewT (z := a) n9 (.cons (.int (-1) (by decide +kernel)) (.cons (.int 1 (by decide +kernel)) .nil))
    refine ⟨(small_line (by decide : 2 ≤ 1000)), fun p10 n10 => ?_⟩
    obtain ⟨s10, d10⟩ := dnewT (z := a) n10 (.cons (.int 5 (by decide +kernel)) (.cons (.int 3 (by decide +kernel)) .nil))
    refine ⟨(small_line (by decide : 10 ≤ 1000)), fun p11 n11 => ?_⟩
    obtain ⟨s11, all, hrw⟩ := drow (z := a) n11 (.cons (d1.same (s2.trans (s3.trans (s4.trans (s5.trans (s6.trans (s7.trans (s8.trans (s9.trans s10))))))))) (.cons (d2.same (s3.trans (s4.trans (s5.trans (s6.trans (s7.trans (s8.trans (s9.trans s10)))))))) (.cons (d3.same (s4.trans (s5.trans (s6.trans (s7.trans (s8.trans (s9.trans s10))))))) (.cons (d4.same (s5.trans (s6.trans (s7.trans (s8.trans (s9.trans s10)))))) (.cons (d5.same (s6.trans (s7.trans (s8.trans (s9.trans s10))))) (.cons (d6.same (s7.trans (s8.trans (s9.trans s10)))) (.cons (d7.same (s8.trans (s9.trans s10))) (.cons (d8.same (s9.trans s10)) (.cons (d9.same s10) (.cons d10 .nil))))))))))
    have sR := (s1.trans (s2.trans (s3.trans (s4.trans (s5.trans (s6.trans (s7.trans (s8.trans (s9.trans (s10.trans s11))))))))))
    refine ⟨a, c, p11, _, rfl, hF.same sR, hrw, new_ne (hF.same (s1.trans (s2.trans (s3.trans (s4.trans (s5.trans (s6.trans (s7.trans (s8.trans (s9.trans s10)))))))))) n11, by show 0 < 10; decide, by show 10 ≤ 1000; decide, fun v H2 hv hF2 b2 => ?_⟩
    obtain ⟨d, hd, h⟩ := all.mem hv
    have h2 := h.but (hF.same sR) b2
    have bb := (But.of (a := a) sR).trans b2
    simp only [List.mem_cons, List.not_mem_nil, or_false] at hd
    rcases hd with rfl | rfl | rfl | rfl | rfl | rfl | rfl | rfl | rfl | rfl <;> exact q _ _ _ _ hF2 bb ⟨h2, by decide +kernel⟩ (by decide) (by decide) (by decide)
end
theorem join_singles : ∀ cs : List Nat, TL.joinL [] (cs.map fun c => [c]) = cs
  | [] => rfl
  | [c] => rfl
  | c :: d :: r => by
    show [c] ++ ([] ++ TL.joinL [] ((d :: r).map fun c => [c])) = c :: d :: r
    rw [join_singles (d :: r)]
    rfl
theorem FeedOk.put {H : Hp} {a c p : Addr} {o : HO} (h : FeedOk H a c) (h1 : p ≠ a) (h2 : p ≠ c) : FeedOk (L2.upd H p o) a c := by
  obtain ⟨ns, k, big, mark, e1, e2, h3⟩ := h
  exact ⟨ns, k, big, mark, by rw [upd_ne h1.symm]; exact e1, by rw [upd_ne h2.symm]; exact e2, h3⟩
theorem but_none {a p : Addr} {H H' : Hp} (b : But a H H') (n : H' p = none) (ne : p ≠ a) : H p = none := by
  cases e : H p with
  | none => rfl
  | some o =>
    rw [b p o ne e] at n
    cases n
theorem But.updN {a p : Addr} {H H' : Hp} {o : HO} (b : But a H H') (n : H p = none) : But a H (L2.upd H' p o) := fun q x hq e => by
  rw [upd_ne (ne_of_none e n)]
  exact b q x hq e
theorem new_nc {H : Hp} {a c p : Addr} (h : FeedOk H a c) (n : H p = none) : p ≠ c := by
  obtain ⟨_, _, _, _, _, hc, _⟩ := h
  exact (ne_of_none hc n).symm
section
variable {P : Program} {w : World} {K : PySem.W.Frag} {mg : Str → Option Value} {base : Heap} {fa : Nat → Addr} {fd : Nat → FuncData}
def spWords : Sp := fun vs H Q _ => ∃ (a c : Addr) (m : Nat), vs = [.ref a, .int (m : Int)] ∧ FeedOk H a c ∧ m ≤ 6 ∧ ∀ (p : Addr) (ws : List (List Nat)) (H' : Hp), FeedOk H' a c → But a H H' → p ≠ a → H' p = some (.lst (ws.map vS)) → ws.length = m → ws.Nodup → (∀ x ∈ ws, LW x) → Q (.ref p) H'
theorem ok_words (T : Txt K mg fa fd) : FnOk P w K mg base CX0 3 (fa 38) (fd 38) ["_law_feed_here", "_law_many"] spWords := by
  refine T.F_words.ok sc_words (fun vs H Q E h => ?_) (fun cdv A outer s H vs Q E hr h => ?_)
  · obtain ⟨a, c, m, rfl, _⟩ := h
    rfl
  · obtain ⟨a, c, m, rfl, hF, hm, q⟩ := h
    refine ⟨_, (C8.pss_cut (ps_set (i := 2) sc_words.nd rfl (.inr rfl) pe_str)
      (C8.pss_cut (ps_set (i := 3) sc_words.nd rfl (.inr rfl) (pe_m1 PySem.F.slot_str_join PySem.F.type_str_join mt_join pe_str (pe_lc (own := [("_law_k", 8)]) (g := gName 8) (tt := tYes) rfl sc_words.nd (pi_range1 (by rfl) T.m_range (pa_cons (pe_call (ok_draw T) (hr.mono (by decide)) (by rfl) T.g_draw T.F_draw.kp T.b_draw .nil pass0 (pa_cons (pv 0) (pa_cons pe_int pa_nil))) pa_nil)) (blkOk_by (own := [("_law_k", 8)]) (N := ["_law_feed_here", "_law_many", "_law_letters", "_law_stem", "_law_spot", "_law_first", "_law_way", "_law_found", "_law_k"]) (sc := defScope s_words) (by decide +kernel)) (fun _ _ _ _ _ => pg_name (i := 8) sc_words.nd rfl (Or.inl rfl)) (fun _ _ _ _ _ => pts_nil) (fun _ _ _ _ _ => (pe_ix ix_str (pv 2) (pe_call (ok_draw T) (hr.mono (by decide)) (by rfl) T.g_draw T.F_draw.kp T.b_draw .nil pass0 (pa_cons (pv 0) (pa_cons pe_int pa_nil))) (fun _ _ => rfl)))) (by rfl) (by rfl) (by rfl)))
      (C8.pss_cut (ps_asg (pe_tup (pa_cons (pe_call (ok_draw T) (hr.mono (by decide)) (by rfl) T.g_draw T.F_draw.kp T.b_draw .nil pass0 (pa_cons (pv 0) (pa_cons (pe_op op_add (pe_callB call_len_str (by rfl) T.m_len PySem.boot_len (pa_cons (pv 3) pa_nil)) pe_int) pa_nil))) (pa_cons (pe_call (ok_draw T) (hr.mono (by decide)) (by rfl) T.g_draw T.F_draw.kp T.b_draw .nil pass0 (pa_cons (pv 0) (pa_cons pe_int pa_nil))) (pa_cons (pe_call (ok_draw T) (hr.mono (by decide)) (by rfl) T.g_draw T.F_draw.kp T.b_draw .nil pass0 (pa_cons (pv 0) (pa_cons pe_int pa_nil))) pa_nil)))) (pg_tup (by rfl) (pgs_cons (pg_name (i := 4) sc_words.nd rfl (.inr rfl)) (pgs_cons (pg_name (i := 5) sc_words.nd rfl (.inr rfl)) (pgs_cons (pg_name (i := 6) sc_words.nd rfl (.inl rfl)) pgs_nil)))))
      (C8.pss_cut (ps_setLc (i := 7) (own := [("_law_k", 8)]) (g := gName 8) (tt := tYes) rfl sc_words.nd rfl rfl (sw_true rfl rfl rfl (by decide +kernel)) (pi_range1 (by rfl) T.m_range (pa_cons (pv 1) pa_nil)) (blkOk_by (own := [("_law_k", 8)]) (N := ["_law_feed_here", "_law_many", "_law_letters", "_law_stem", "_law_spot", "_law_first", "_law_way", "_law_found", "_law_k"]) (sc := defScope s_words) (by decide +kernel)) (fun _ _ _ _ _ => pg_name (i := 8) sc_words.nd rfl (Or.inl rfl)) (fun _ _ _ _ _ => pts_nil) (fun _ _ _ _ _ => (pe_op op_add_str (pe_op op_add_str (pe_slice sl_str (pv 3) po_none (po_some (pv 4))) (pe_ix ix_str (pv 2) (pe_op op_mod (pe_callTy call_int1 (by rfl) T.m_int PySem.Pv.boot_int (pa_cons (pe_op op_add (pv 5) (pe_op op_mul pe_int (pv 8))) pa_nil)) pe_int) (fun _ _ => rfl))) (pe_slice sl_str (pv 3) (po_some (pv 4)) po_none))))
      (C8.pss_cut (ps_if (pt_cmpR op_eq (pv 6) pe_int (nomark _)) (C8.pss_cut (ps_setLc (i := 7) (own := [("_law_k", 8)]) (g := gName 8) (tt := tYes) rfl sc_words.nd rfl rfl (sw_true rfl rfl rfl (by decide +kernel)) (pi_range1 (by rfl) T.m_range (pa_cons (pv 1) pa_nil)) (blkOk_by (own := [("_law_k", 8)]) (N := ["_law_feed_here", "_law_many", "_law_letters", "_law_stem", "_law_spot", "_law_first", "_law_way", "_law_found", "_law_k"]) (sc := defScope s_words) (by decide +kernel)) (fun _ _ _ _ _ => pg_name (i := 8) sc_words.nd rfl (Or.inl rfl)) (fun _ _ _ _ _ => pts_nil) (fun _ _ _ _ _ => (pe_slice sl_str (pe_op op_add_str (pe_slice sl_str (pv 3) po_none (po_some pe_int)) (pe_op op_mul_str (pe_ix ix_str (pv 2) (pe_op op_mod (pe_callTy call_int1 (by rfl) T.m_int PySem.Pv.boot_int (pa_cons (pe_op op_add (pv 5) (pe_op op_mul pe_int (pv 8))) pa_nil)) pe_int) (fun _ _ => rfl)) (pe_op op_add pe_int (pe_op op_mod (pe_callTy call_int1 (by rfl) T.m_int PySem.Pv.boot_int (pa_cons (pe_op op_add (pv 8) (pv 5)) pa_nil)) pe_int)))) (po_some (pe_un un_neg pe_int)) po_none)))
      (pss_one (ps_set (i := 7) sc_words.nd rfl (.inl rfl) (pe_ifExp (pt_cmpR op_eq (pe_callB call_len_seq (by rfl) T.m_len PySem.boot_len (pa_cons (pe_callB (cr_sortedW rfl) (by rfl) T.m_sorted (by decide +kernel) (pa_cons (pe_callTy (cr_setS rfl) (by rfl) T.m_set (by decide +kernel) (pa_cons (pv 7) pa_nil)) pa_nil)) pa_nil)) (pv 1) (nomark _)) (pv 7) (pe_lc (own := [("_law_k", 8)]) (g := gName 8) (tt := tYes) rfl sc_words.nd (pi_range1 (by rfl) T.m_range (pa_cons (pv 1) pa_nil)) (blkOk_by (own := [("_law_k", 8)]) (N := ["_law_feed_here", "_law_many", "_law_letters", "_law_stem", "_law_spot", "_law_first", "_law_way", "_law_found", "_law_k"]) (sc := defScope s_words) (by decide +kernel)) (fun _ _ _ _ _ => pg_name (i := 8) sc_words.nd rfl (Or.inl rfl)) (fun _ _ _ _ _ => pts_nil) (fun _ _ _ _ _ => (pe_ix ix_str (pv 2) (pe_op op_mod (pe_callTy call_int1 (by rfl) T.m_int PySem.Pv.boot_int (pa_cons (pe_op op_add (pv 5) (pe_op op_mul pe_int (pv 8))) pa_nil)) pe_int) (fun _ _ => rfl)))))))) pss_nil)
      (pss_one (ps_ret (pv 7)))))))), ?_⟩
    refine ⟨fun σ H1 => H1 = H ∧ σ = [some (.ref a), some (.int m), some (.str ABC), none, none, none, none, none, none], ⟨rfl, rfl⟩, fun σ H1 hM => ?_⟩
    obtain ⟨rfl, rfl⟩ := hM
    -- stem
    refine ⟨fun σ H2 => FeedOk H2 a c ∧ But a H1 H2 ∧ ∃ st : List Nat, st.length ≤ 5 ∧ st.all lowc = true ∧ σ = [some (.ref a), some (.int m), some (.str ABC), some (vS st), none, none, none, none, none], ?_, fun σ H2 hM => ?_⟩
    · refine ⟨⟨_, rfl⟩, _, rfl, a, c, _, rfl, hF, mid_of (by decide) (by decide), fun r H2 r0 r1 hF2 b2 => ?_⟩
      refine ⟨r, rfl, by omega, by omega, fun D nD => ?_⟩
      obtain ⟨n, rfl⟩ := Int.eq_ofNat_of_zero_le r0
      have nDa := new_ne hF2 nD
      have nDc := new_nc hF2 nD
      have nD1 := but_none b2 nD nDa
      refine lc_range (n := n) (fun i H3 => FeedOk H3 a c ∧ But a H1 H3 ∧ ∃ st : List Nat, st.length = i ∧ st.all lowc = true ∧ H3 D = some (.lst (st.map fun c => vS [c]))) ⟨hF2.new nD, b2.updN nD1, [], rfl, rfl, upd_same⟩ (fun i H3 hi hp => ?_) (fun H3 hp => ?_)
      · obtain ⟨hF3, b3, st, hl, hs, hD⟩ := hp
        refine ⟨rfl, _, rfl, _, rfl, a, c, _, rfl, hF3, mid_of (by decide) (by decide), fun r2 H4 r3 r4 hF4 b4 => ?_⟩
        refine ⟨_, _, _, rfl, rfl, small_line (by decide), abc_at r3 r4, _, b4 _ _ nDa hD, ?_, hF4.put nDa nDc, (b3.trans b4).updN nD1, st ++ [97 + r2.toNat], ?_, ?_, ?_⟩
        · rw [List.length_map]
          exact small1000 (by omega)
        · rw [List.length_append, hl]
          rfl
        · rw [List.all_append, hs, Bool.true_and]
          simp [low_abc (show r2.toNat < 26 by omega)]
        · rw [upd_same, List.map_append]
          rfl
      · obtain ⟨hF3, b3, st, hl, hs, hD⟩ := hp
        have em : (st.map fun c => vS [c]) = (st.map fun c => SX.S [c]).map V.str := by rw [List.map_map]; rfl
        refine ⟨_, D, st.map fun c => SX.S [c], rfl, rfl, .inl (SqL.of (by rw [← em]; exact hD)), ?_, hF3, b3, st, by omega, hs, ?_⟩
        · have : ∀ l : List Nat, ((l.map fun c => SX.S [c]).map (·.length)).sum = l.length := fun l => by
            induction l with
            | nil => rfl
            | cons x l ih =>
              rw [List.map_cons, List.map_cons, List.sum_cons, ih, List.length_cons, SX.S_len]
              exact Nat.add_comm _ _
          rw [this, List.length_map]
          show st.length + st.length * 0 ≤ _
          omega
        · have e : Txt.join (Str.ofString "") (st.map fun c => SX.S [c]) = SX.S st := by
            have := SX.join_S [] (st.map fun c => [c])
            rw [join_singles, List.map_map] at this
            exact this
          rw [e]
          rfl
    · obtain ⟨hF2, b2, st, hst, hsl, rfl⟩ := hM
      -- spot, first, way
      refine ⟨fun σ H3 => FeedOk H3 a c ∧ But a H1 H3 ∧ ∃ (sp f : Nat) (wy : Int), f < 26 ∧ σ = [some (.ref a), some (.int m), some (.str ABC), some (vS st), some (.int sp), some (.int f), some (.int wy), none, none], ?_, fun σ H3 hM => ?_⟩
      · have sl : (SX.S st).length = st.length := SX.S_len st
        refine ⟨_, rfl, _, rfl, _, rfl, small_line (by omega), _, _, rfl, rfl, a, c, _, rfl, hF2, mid_of (by omega) (by omega), fun r H3 r0 r1 hF3 b3 => ?_⟩
        refine ⟨_, rfl, a, c, _, rfl, hF3, mid_of (by decide) (by decide), fun r2 H4 r3 r4 hF4 b4 => ?_⟩
        refine ⟨_, rfl, a, c, _, rfl, hF4, mid_of (by decide) (by decide), fun r5 H5 _ _ hF5 b5 => ?_⟩
        refine ⟨small_line (by show 3 ≤ 1000; decide), fun p np => ⟨p, _, rfl, .inl (.inl upd_same), rfl, _, _, rfl, _, _, rfl, _, _, rfl, rfl, ?_⟩⟩
        obtain ⟨sp, rfl⟩ := Int.eq_ofNat_of_zero_le r0
        obtain ⟨f, rfl⟩ := Int.eq_ofNat_of_zero_le r3
        exact ⟨hF5.new np, (b2.trans (b3.trans (b4.trans b5))).trans (But.of (same_upd np)), sp, f, r5, by omega, rfl⟩
      · clear hF2 b2 H2
        obtain ⟨hF3, b3, sp, f, wy, hf, rfl⟩ := hM
        -- found
        refine ⟨fun σ H4 => FeedOk H4 a c ∧ But a H1 H4 ∧ ∃ p, p ≠ a ∧ H4 p = some (.lst (((List.range m).map fun k => st.take sp ++ [five f k] ++ st.drop sp).map vS)) ∧ σ = [some (.ref a), some (.int m), some (.str ABC), some (vS st), some (.int sp), some (.int f), some (.int wy), some (.ref p), none], ?_, fun σ H4 hM => ?_⟩
        · refine ⟨_, rfl, _, rfl, by omega, by omega, fun D nD => ?_⟩
          have nDa := new_ne hF3 nD
          have nDc := new_nc hF3 nD
          have nD1 := but_none b3 nD nDa
          have sl : (SX.S st).length = st.length := SX.S_len st
          refine lc_range (n := m) (fun i H4 => FeedOk H4 a c ∧ But a H1 H4 ∧ H4 D = some (.lst (((List.range i).map fun k => st.take sp ++ [five f k] ++ st.drop sp).map vS))) ⟨hF3.new nD, b3.updN nD1, upd_same⟩ (fun i H4 hi hp => ?_) (fun H4 hp => ⟨hp.1, hp.2.1, D, nDa, hp.2.2, rfl⟩)
          obtain ⟨hF4, b4, hD⟩ := hp
          have m0 : (0 : Int) ≤ ((f : Int) + 5 * (0 + (i : Int))) % 26 := by omega
          have m1 : ((f : Int) + 5 * (0 + (i : Int))) % 26 < 26 := by omega
          have m2 : 97 + (((f : Int) + 5 * (0 + (i : Int))) % 26).toNat = five f i := by
            unfold five
            omega
          have it := abc_at m0 m1
          rw [m2] at it
          refine ⟨rfl, _, rfl, _, rfl, _, rfl, _, rfl, small_line (by omega), _, rfl, _, rfl, _, rfl, _, _, rfl, rfl, .inl (by decide), _, _, rfl, rfl, .inl ⟨_, rfl, _, _, rfl, rfl, (by show (0 : Int) < 26; decide), ?_⟩⟩
          refine ⟨_, _, _, rfl, rfl, small_line (by decide), it, _, _, rfl, rfl, ?_, _, rfl, _, rfl, _, rfl, _, rfl, small_line (by omega), _, _, rfl, rfl, ?_, _, hD, ?_, ?_, ?_, ?_⟩
          · rw [cut_to, SX.S_len, List.length_take]
            exact small_line (by show min sp st.length + 1 ≤ 1000; omega)
          · rw [cut_to, cut_from, show ({ cps := #[five f i] } : Str) = SX.S [five f i] from rfl, SX.S_cat, SX.S_len, SX.S_len, List.length_append, List.length_take, List.length_drop]
            exact small_line (by show min sp st.length + 1 + (st.length - sp) ≤ 1000; omega)
          · rw [List.length_map, List.length_map, List.length_range]
            exact small1000 (by omega)
          · exact hF4.put nDa nDc
          · exact b4.updN nD1
          · rw [upd_same, cut_to, cut_from, show ({ cps := #[five f i] } : Str) = SX.S [five f i] from rfl, SX.S_cat, SX.S_cat, List.range_succ, List.map_append, List.map_append]
            rfl
        · clear hF3 b3 H3
          obtain ⟨hF4, b4, p, npa, hp, rfl⟩ := hM
          have lw0 : ∀ x ∈ (List.range m).map fun k => st.take sp ++ [five f k] ++ st.drop sp, LW x := fun x hx => by
            obtain ⟨k, hk, rfl⟩ := List.mem_map.mp hx
            exact LW.put hst hsl (low_abc (Nat.mod_lt _ (by decide)))
          have nd0 : ((List.range m).map fun k => st.take sp ++ [five f k] ++ st.drop sp).Nodup := nodup_range_map fun i j hi hj e => five_inj (by omega) (by omega) (put_inj e)
          -- way
          refine ⟨fun σ H5 => ∃ (p : Addr) (ws : List (List Nat)), FeedOk H5 a c ∧ But a H1 H5 ∧ p ≠ a ∧ H5 p = some (.lst (ws.map vS)) ∧ ws.length = m ∧ ws.Nodup ∧ (∀ x ∈ ws, LW x) ∧ σ = [some (.ref a), some (.int m), some (.str ABC), some (vS st), some (.int sp), some (.int f), some (.int wy), some (.ref p), none], ?_, fun σ H5 hM => ?_⟩
          · refine ⟨_, rfl, rfl, _, rfl, ite2 (fun _ => ?_) (fun _ => ⟨p, _, hF4, b4, npa, hp, by rw [List.length_map, List.length_range], nd0, lw0, rfl⟩)⟩
            refine ⟨fun σ H5 => FeedOk H5 a c ∧ But a H1 H5 ∧ ∃ (p : Addr) (ws : List (List Nat)), p ≠ a ∧ H5 p = some (.lst (ws.map vS)) ∧ ws.length = m ∧ (∀ x ∈ ws, LW x) ∧ σ = [some (.ref a), some (.int m), some (.str ABC), some (vS st), some (.int sp), some (.int f), some (.int wy), some (.ref p), none], ?_, fun σ H5 hM => ?_⟩
            · refine ⟨_, rfl, _, rfl, by omega, by omega, fun D nD => ?_⟩
              have nDa := new_ne hF4 nD
              have nDc := new_nc hF4 nD
              have nD1 := but_none b4 nD nDa
              refine lc_range (n := m) (fun i H5 => FeedOk H5 a c ∧ But a H1 H5 ∧ ∃ ws : List (List Nat), ws.length = i ∧ (∀ x ∈ ws, LW x) ∧ H5 D = some (.lst (ws.map vS))) ⟨hF4.new nD, b4.updN nD1, [], rfl, (fun x h => by cases h), upd_same⟩ (fun i H5 hi hp => ?_) (fun H5 hp => by
                obtain ⟨h1, h2, ws, h3, h4, h5⟩ := hp
                exact ⟨h1, h2, D, ws, nDa, h5, h3, h4, rfl⟩)
              obtain ⟨hF5, b5, ws, hl, hw, hD⟩ := hp
              have m0 : (0 : Int) ≤ ((f : Int) + 7 * (0 + (i : Int))) % 26 := by omega
              have m1 : ((f : Int) + 7 * (0 + (i : Int))) % 26 < 26 := by omega
              have it := abc_at m0 m1
              have lc := low_abc (show (((f : Int) + 7 * (0 + (i : Int))) % 26).toNat < 26 by omega)
              generalize 97 + (((f : Int) + 7 * (0 + (i : Int))) % 26).toNat = cd at it lc
              have r0 : 0 ≤ (1 : Int) + ((0 + (i : Int)) + (f : Int)) % 4 := by omega
              have r1 : 1 ≤ ((1 : Int) + ((0 + (i : Int)) + (f : Int)) % 4).toNat := by omega
              have r2 : ((1 : Int) + ((0 + (i : Int)) + (f : Int)) % 4).toNat ≤ 4 := by omega
              have r3 : (1 : Int) + ((0 + (i : Int)) + (f : Int)) % 4 ≤ 4 := by omega
              have sl : (SX.S st).length = st.length := SX.S_len st
              refine ⟨rfl, _, rfl, _, rfl, _, rfl, small_line (by omega), _, rfl, _, rfl, _, rfl, _, _, rfl, rfl, .inl (by decide), _, _, rfl, rfl, .inl ⟨_, rfl, _, _, rfl, rfl, (by show (0 : Int) < 26; decide), ?_⟩⟩
              refine ⟨_, _, _, rfl, rfl, small_line (by decide), it, _, rfl, _, rfl, _, _, rfl, rfl, .inl ⟨_, rfl, _, _, rfl, rfl, (by show (0 : Int) < 4; decide), ?_⟩⟩
              refine ⟨_, _, rfl, rfl, _, _, rfl, rfl, mul_one1 rfl (by omega) (by omega), ?_⟩
              generalize (1 : Int) + ((0 + (i : Int)) + (f : Int)) % 4 = N at r0 r1 r2 r3
              have e1 : cutS (SX.S st) none (some 1) = SX.S (st.take 1) := cut_to st 1
              have e2 : Txt.mul { cps := #[cd] } N = SX.S (List.replicate N.toNat cd) := mul_rep cd N
              have l5 : (st.take 1 ++ List.replicate N.toNat cd).length ≤ 6 := (LW.rep (a := st) hsl lc r1 (by omega)).2.1
              have whole : cutS (cutS (SX.S st) none (some 1) ++ Txt.mul { cps := #[cd] } N) (some (-6)) none = SX.S (st.take 1 ++ List.replicate N.toNat cd) := by
                rw [e1, e2, SX.S_cat]
                exact cut_last _ (k := 6) l5 (by decide)
              refine ⟨_, _, rfl, rfl, ?_, _, rfl, _, rfl, _, rfl, ?_, _, hD, ?_, hF5.put nDa nDc, b5.updN nD1, ws ++ [st.take 1 ++ List.replicate N.toNat cd], ?_, ?_, ?_⟩
              · rw [e1, e2, SX.S_len, SX.S_len, ← List.length_append]
                exact small_line (by omega)
              · rw [e1, e2, SX.S_cat, SX.S_len]
                exact small_line (by omega)
              · rw [List.length_map]
                exact small1000 (by omega)
              · rw [List.length_append, hl]
                rfl
              · intro x hx
                rcases List.mem_append.mp hx with h | h
                · exact hw x h
                · rw [List.mem_singleton.mp h]
                  exact LW.rep hsl lc r1 (by omega)
              · rw [upd_same, List.map_append]
                exact congrArg (fun z => some (HO.lst (ws.map vS ++ [V.str z]))) whole
            · clear hF4 b4 hp npa p nd0 lw0 H4
              obtain ⟨hF5, b5, p, ws, npa, hp, hl, hw, rfl⟩ := hM
              have hpS : H5 p = some (.lst ((ws.map SX.S).map V.str)) := by
                rw [List.map_map]
                exact hp
              have il := insAll_len (ws.map SX.S) []
              rw [List.length_map] at il
              simp only [List.length_nil, Nat.add_zero] at il
              refine ⟨_, rfl, p, _, rfl, SqL.of hpS, by rw [List.length_map]; omega, fun q nq => ⟨q, _, rfl, upd_same, insAll_nodup _ List.nodup_nil, by omega, fun zs r pm _ nr => ?_⟩⟩
              refine ⟨r, _, rfl, .inl (SqL.of upd_same), _, rfl, rfl, _, rfl, ?_⟩
              have sq := same_upd (o := SetW P w q (insAll (ws.map SX.S) [])) nq
              have sr := same_upd (o := .lst (zs.map V.str)) nr
              have sx := sq.trans sr
              have hF7 := hF5.same sx
              have b7 := b5.trans (But.of (a := a) sx)
              have hp7 := sx _ _ hp
              generalize upd (upd H5 q (SetW P w q (insAll (ws.map SX.S) []))) r (.lst (zs.map V.str)) = H7 at hF7 b7 hp7 ⊢
              refine ite2 (fun e => ?_) (fun _ => ?_)
              · have e := V.int.inj (of_decide_eq_true e)
                rw [List.length_map] at e
                have el : (insAll (ws.map SX.S) []).length = (ws.map SX.S).length + ([] : List Str).length := by
                  rw [← pm.length_eq, List.length_map, List.length_nil]
                  omega
                exact ⟨_, rfl, p, ws, hF7, b7, npa, hp7, hl, nodup_S (ins_all_full _ _ el).1, hw, rfl⟩
              · refine ⟨_, rfl, _, rfl, by omega, by omega, fun D nD => ?_⟩
                have nDa := new_ne hF7 nD
                have nDc := new_nc hF7 nD
                have nD1 := but_none b7 nD nDa
                refine lc_range (n := m) (fun i H8 => FeedOk H8 a c ∧ But a H1 H8 ∧ H8 D = some (.lst (((List.range i).map fun k => [five f k]).map vS))) ⟨hF7.new nD, b7.updN nD1, upd_same⟩ (fun i H8 hi hp => ?_) (fun H8 hp => ?_)
                · obtain ⟨hF8, b8, hD⟩ := hp
                  have m0 : (0 : Int) ≤ ((f : Int) + 5 * (0 + (i : Int))) % 26 := by omega
                  have m1 : ((f : Int) + 5 * (0 + (i : Int))) % 26 < 26 := by omega
                  have m2 : 97 + (((f : Int) + 5 * (0 + (i : Int))) % 26).toNat = five f i := by
                    unfold five
                    omega
                  have it := abc_at m0 m1
                  rw [m2] at it
                  refine ⟨rfl, _, rfl, _, rfl, _, rfl, _, _, rfl, rfl, .inl (by decide), _, _, rfl, rfl, .inl ⟨_, rfl, _, _, rfl, rfl, (by show (0 : Int) < 26; decide), ?_⟩⟩
                  refine ⟨_, _, _, rfl, rfl, small_line (by decide), it, _, hD, ?_, hF8.put nDa nDc, b8.updN nD1, ?_⟩
                  · rw [List.length_map, List.length_map, List.length_range]
                    exact small1000 (by omega)
                  · rw [upd_same, List.range_succ, List.map_append, List.map_append]
                    rfl
                · obtain ⟨hF8, b8, hD⟩ := hp
                  refine ⟨D, _, hF8, b8, nDa, hD, by rw [List.length_map, List.length_range], nodup_range_map fun i j hi hj e => five_inj (by omega) (by omega) (List.cons.inj e).1, fun x hx => ?_, rfl⟩
                  obtain ⟨k, hk, rfl⟩ := List.mem_map.mp hx
                  exact LW.one (low_abc (Nat.mod_lt _ (by decide)))
          · obtain ⟨p, ws, hF5, b5, npa, hp, hl, hn, hw, rfl⟩ := hM
            exact ⟨_, rfl, q p ws H5 hF5 b5 npa hp hl hn hw⟩
end
/-! ### drawn values -/
theorem valV_not {kvs : List (Key × V)} {k : Key} (h : k ∉ kvs.map (·.1)) : valV kvs k = none := by
  induction kvs with
  | nil => rfl
  | cons p r ih =>
    rw [List.map_cons, List.mem_cons] at h
    rw [valV_neg (fun z => h (.inl z.symm))]
    exact ih fun z => h (.inr z)
theorem merge_nodup : ∀ (kvs acc : List (Key × V)), ((acc ++ kvs).map (·.1)).Nodup → mergeK acc kvs = acc ++ kvs
  | [], acc, _ => (List.append_nil acc).symm
  | kv :: kvs, acc, h => by
    have h1 : valV acc kv.1 = none := valV_not fun z => by
      rw [List.map_append, List.map_cons] at h
      exact (List.nodup_append.mp h).2.2 _ z _ List.mem_cons_self rfl
    show mergeK (putK acc kv.1 kv.2) kvs = _
    rw [putK_new _ h1, merge_nodup kvs (acc ++ [kv]) (by rw [List.append_assoc]; exact h), List.append_assoc]
    rfl
theorem paired_mono {α β : Type} {R S : α → β → Prop} (h : ∀ a b, R a b → S a b) : ∀ {xs : List α} {ys : List β}, Paired R xs ys → Paired S xs ys
  | _, _, .nil => .nil
  | _, _, .cons r t => .cons (h _ _ r) (paired_mono h t)
theorem paired_snoc {α β : Type} {R : α → β → Prop} : ∀ {xs : List α} {ys : List β} {x : α} {y : β}, Paired R xs ys → R x y → Paired R (xs ++ [x]) (ys ++ [y])
  | _, _, _, _, .nil, h => .cons h .nil
  | _, _, _, _, .cons r t, h => .cons r (paired_snoc t h)
def VB : List FR := [(0, 1), (1, 1), (2, 1), (-1, 1), (1, 2), (3, 1), (-5, 3)]
theorem vb_lv : ∀ f ∈ VB, Lv 0 f := by
  intro c hc
  simp only [VB, List.mem_cons, List.not_mem_nil, or_false] at hc
  rcases hc with rfl | rfl | rfl | rfl | rfl | rfl | rfl <;> (unfold Lv DL ML Dm Nf; decide +kernel)
section
variable {P : Program} {w : World} {K : PySem.W.Frag} {mg : Str → Option Value} {base : Heap} {fa : Nat → Addr} {fd : Nat → FuncData}
def spPoint (K : PySem.W.Frag) : Sp := fun vs H Q _ => ∃ (a c p : Addr) (ws : List (List Nat)), vs = [.ref a, .ref p] ∧ FeedOk H a c ∧ p ≠ a ∧ H p = some (.lst (ws.map vS)) ∧ ws.Nodup ∧ ws.length ≤ 6 ∧ ∀ d val H', FeedOk H' a c → But a H H' → H d = none → (∃ kvs, H' d = some (.dK kvs) ∧ RDk K H' kvs ws val) → Vl 0 ws val → Q (.ref d) H'
theorem ok_point (T : Txt K mg fa fd) : FnOk P w K mg base CX0 3 (fa 41) (fd 41) ["_law_feed_here", "_law_words_here"] (spPoint K) := by
  refine T.F_point.ok sc_point (fun vs H Q E h => ?_) (fun cdv A outer s H vs Q E hr h => ?_)
  · obtain ⟨a, c, p, ws, rfl, _⟩ := h
    rfl
  · obtain ⟨a, c, p, ws, rfl, hF, npa, hp, hnd, hl, q⟩ := h
    refine ⟨_, (pss_one (ps_ret (pe_callTy (call_dictP rfl) (by rfl) T.m_dict (by decide +kernel) (pa_cons (pe_lc (own := [("_law_name", 2)]) (g := gName 2) (tt := tYes) rfl sc_point.nd (pi_list (pv 1)) (blkOk_by (own := [("_law_name", 2)]) (N := ["_law_feed_here", "_law_words_here", "_law_name"]) (sc := defScope s_point) (by decide +kernel)) (fun _ _ _ _ _ => pg_name (i := 2) sc_point.nd rfl (Or.inl rfl)) (fun _ _ _ _ _ => pts_nil) (fun _ _ _ _ _ => (pe_tup (pa_cons (pv 2) (pa_cons (pe_call (ok_any T) (hr.mono (by decide)) (by rfl) T.g_any T.F_any.kp T.b_any .nil pass0 (pa_cons (pv 0) (pa_cons (pe_lst (pa_cons (pe_tup (pa_cons pe_int (pa_cons pe_int pa_nil))) (pa_cons (pe_tup (pa_cons pe_int (pa_cons pe_int pa_nil))) (pa_cons (pe_tup (pa_cons pe_int (pa_cons pe_int pa_nil))) (pa_cons (pe_tup (pa_cons (pe_un un_neg pe_int) (pa_cons pe_int pa_nil))) (pa_cons (pe_tup (pa_cons pe_int (pa_cons pe_int pa_nil))) (pa_cons (pe_tup (pa_cons pe_int (pa_cons pe_int pa_nil))) (pa_cons (pe_tup (pa_cons (pe_un un_neg pe_int) (pa_cons pe_int pa_nil))) pa_nil)))))))) pa_nil))) pa_nil))))) pa_nil)))), ?_⟩
    refine ⟨_, rfl, p, rfl, ⟨_, SqL.of hp⟩, fun D nD => ?_⟩
    have nDa := new_ne hF nD
    have nDc := new_nc hF nD
    have npD : p ≠ D := ne_of_none hp nD
    refine lc_list (K := K) (a := p) (xs := ws.map vS) (fun i G => FeedOk G a c ∧ But a H G ∧ G p = some (.lst (ws.map vS)) ∧ ∃ (ps : List Addr) (kvs : List (Key × V)), G D = some (.lst (ps.map V.ref)) ∧ Paired (fun p kv => G p = some (.tup [kV kv.1, kv.2])) ps kvs ∧ kvs.map (·.1) = (ws.take i).map (fun x => (.inr (SX.S x) : Key)) ∧ ∀ kv ∈ kvs, ∃ (q : Addr) (f : FR), kv.2 = .ref q ∧ G q = some (.tup [.int f.1, .int f.2]) ∧ f ∈ VB)
      ⟨hF.new nD, But.of (same_upd nD), same_upd nD _ _ hp, [], [], upd_same, .nil, rfl, fun kv h => by cases h⟩ (fun i G _ hq => SqL.of hq.2.2.1) (fun i x G hx hq => ?_) (fun G hq => ?_)
    · obtain ⟨hG, bG, hpG, ps, kvs, hD, hpk, hkeys, hvals⟩ := hq
      rw [List.getElem?_map] at hx
      obtain ⟨x, hxz, rfl⟩ := Option.map_eq_some_iff.mp hx
      refine ⟨rfl, ?_⟩
      refine ⟨_, rfl, _, rfl, (small_line (by decide : 2 ≤ 1000)), fun p1 n1 => ?_⟩
      obtain ⟨s1, d1⟩ := dnewT (z := a) n1 (.cons (.int 0 (by decide +kernel)) (.cons (.int 1 (by decide +kernel)) .nil))
      refine ⟨(small_line (by decide : 2 ≤ 1000)), fun p2 n2 => ?_⟩
      obtain ⟨s2, d2⟩ := dnewT (z := a) n2 (.cons (.int 1 (by decide +kernel)) (.cons (.int 1 (by decide +kernel)) .nil))
      refine ⟨(small_line (by decide : 2 ≤ 1000)), fun p3 n3 => ?_⟩
      obtain ⟨s3, d3⟩ := dnewT (z := a) n3 (.cons (.int 2 (by decide +kernel)) (.cons (.int 1 (by decide +kernel)) .nil))
      refine ⟨_, rfl, (small_line (by decide : 2 ≤ 1000)), fun p4 n4 => ?_⟩
      obtain ⟨s4, d4⟩ := dnewT (z := a) n4 (.cons (.int (-1) (by decide +kernel)) (.cons (.int 1 (by decide +kernel)) .nil))
      refine ⟨(small_line (by decide : 2 ≤ 1000)), fun p5 n5 => ?_⟩
      obtain ⟨s5, d5⟩ := dnewT (z := a) n5 (.cons (.int 1 (by decide +kernel)) (.cons (.int 2 (by decide +kernel)) .nil))
      refine ⟨(small_line (by decide : 2 ≤ 1000)), fun p6 n6 => ?_⟩
      obtain ⟨s6, d6⟩ := dnewT (z := a) n6 (.cons (.int 3 (by decide +kernel)) (.cons (.int 1 (by decide +kernel)) .nil))
      refine ⟨_, rfl, (small_line (by decide : 2 ≤ 1000)), fun p7 n7 => ?_⟩
      obtain ⟨s7, d7⟩ := dnewT (z := a) n7 (.cons (.int (-5) (by decide +kernel)) (.cons (.int 3 (by decide +kernel)) .nil))
      refine ⟨(small_line (by decide : 7 ≤ 1000)), fun p8 n8 => ?_⟩
      obtain ⟨s8, all, hrw⟩ := drow (z := a) n8 (.cons (d1.same (s2.trans (s3.trans (s4.trans (s5.trans (s6.trans s7)))))) (.cons (d2.same (s3.trans (s4.trans (s5.trans (s6.trans s7))))) (.cons (d3.same (s4.trans (s5.trans (s6.trans s7)))) (.cons (d4.same (s5.trans (s6.trans s7))) (.cons (d5.same (s6.trans s7)) (.cons (d6.same s7) (.cons d7 .nil)))))))
      have sR := (s1.trans (s2.trans (s3.trans (s4.trans (s5.trans (s6.trans (s7.trans s8)))))))
      refine ⟨a, c, p8, _, rfl, hG.same sR, hrw, new_ne (hG.same (s1.trans (s2.trans (s3.trans (s4.trans (s5.trans (s6.trans s7))))))) n8, by show 0 < 7; decide, by show 7 ≤ 1000; decide, fun v H2 hv hF2 b2 => ?_⟩
      obtain ⟨d, hd, hdt⟩ := all.mem hv
      have hdt := hdt.but (hG.same sR) b2
      have bb := (But.of (a := a) sR).trans b2
      have tt := TT.but hG bb
      obtain ⟨f, rfl, hf⟩ : ∃ f : FR, d = frP f ∧ f ∈ VB := by
        simp only [List.mem_cons, List.not_mem_nil, or_false] at hd
        rcases hd with rfl | rfl | rfl | rfl | rfl | rfl | rfl
        · exact ⟨(0, 1), rfl, by unfold VB; simp⟩
        · exact ⟨(1, 1), rfl, by unfold VB; simp⟩
        · exact ⟨(2, 1), rfl, by unfold VB; simp⟩
        · exact ⟨(-1, 1), rfl, by unfold VB; simp⟩
        · exact ⟨(1, 2), rfl, by unfold VB; simp⟩
        · exact ⟨(3, 1), rfl, by unfold VB; simp⟩
        · exact ⟨(-5, 3), rfl, by unfold VB; simp⟩
      obtain ⟨pf, rfl, hpf⟩ := dt_fr hdt
      refine ⟨two_line, fun e ne => ?_⟩
      have se := same_upd (o := .tup [vS x, .ref pf]) ne
      have hD2 := bb _ _ nDa hD
      have hD3 := se _ _ hD2
      have il : i < ws.length := (List.getElem?_eq_some_iff.mp hxz).1
      have kl : kvs.length = ps.length := (Paired.length hpk).symm
      have k2 : kvs.length ≤ 6 := by
        have := congrArg List.length hkeys
        rw [List.length_map, List.length_map, List.length_take] at this
        omega
      refine ⟨ps.map V.ref, hD3, by rw [List.length_map]; exact small1000 (by omega), (hF2.same se).put nDa nDc, ((bG.trans bb).trans (But.of se)).updN nD, ?_, ps ++ [e], kvs ++ [(.inr (SX.S x), .ref pf)], ?_, ?_, ?_, ?_⟩
      · rw [upd_ne npD]
        exact se _ _ (bb _ _ npa hpG)
      · rw [upd_same, List.map_append]
        rfl
      · have t2 := (tt.trans (TT.of se)).trans (TT.upd (zs := ps.map V.ref ++ [.ref e]) hD3)
        refine paired_snoc (paired_mono (fun a b h => t2 _ _ h) hpk) ?_
        exact TT.upd (zs := ps.map V.ref ++ [.ref e]) hD3 _ _ upd_same
      · rw [List.map_append, hkeys, List.take_add_one, hxz, List.map_append]
        rfl
      · intro kv hkv
        have t2 := (tt.trans (TT.of se)).trans (TT.upd (zs := ps.map V.ref ++ [.ref e]) hD3)
        rcases List.mem_append.mp hkv with h | h
        · obtain ⟨q, f, e1, e2, e3⟩ := hvals kv h
          exact ⟨q, f, e1, t2 _ _ e2, e3⟩
        · rw [List.mem_singleton.mp h]
          exact ⟨pf, f, rfl, TT.upd (zs := ps.map V.ref ++ [.ref e]) hD3 _ _ (se _ _ hpf), hf⟩
    · obtain ⟨hG, bG, hpG, ps, kvs, hD, hpk, hkeys, hvals⟩ := hq
      rw [List.length_map, List.take_length] at hkeys
      refine ⟨D, ps, kvs, rfl, SqL.of hD, paired_mono (fun a b h => SqT.of h) hpk, fun d nd => ?_⟩
      have nk : (kvs.map (·.1)).Nodup := by
        rw [hkeys]
        rw [List.Nodup, List.pairwise_map]
        exact List.Pairwise.imp (fun h z => h (S_inj (Sum.inr.inj z))) hnd
      rw [merge_nodup kvs [] nk]
      have sd := same_upd (o := .dK kvs) nd
      have pick : ∀ x, ∃ f : FR, x ∈ ws → f ∈ VB ∧ ∃ q, valV kvs (.inr (SX.S x)) = some (.ref q) ∧ G q = some (.tup [.int f.1, .int f.2]) := fun x => by
        by_cases hx : x ∈ ws
        · have : (.inr (SX.S x) : Key) ∈ kvs.map (·.1) := by
            rw [hkeys]
            exact List.mem_map_of_mem (f := fun x => (.inr (SX.S x) : Key)) hx
          obtain ⟨kv, hkv, ek⟩ := List.mem_map.mp this
          obtain ⟨q, f, e1, e2, e3⟩ := hvals kv hkv
          refine ⟨f, fun _ => ⟨e3, q, ?_, e2⟩⟩
          rw [← ek, val_nodup nk kv hkv, e1]
        · exact ⟨(0, 1), fun h => absurd h hx⟩
      obtain ⟨val, hval⟩ := Classical.axiomOfChoice pick
      refine q d val _ (hG.same sd) (bG.trans (But.of sd)) (but_none bG nd (new_ne hG nd)) ⟨kvs, upd_same, ?_, hnd, fun x hx => ?_⟩ (fun x hx => vb_lv _ (hval x hx).1)
      · exact hkeys
      · obtain ⟨_, q, h2, h3⟩ := hval x hx
        exact ⟨q, h2, SqT.of (sd _ _ h3), .inr (sd _ _ h3)⟩
end
section
variable {P : Program} {w : World} {K : PySem.W.Frag} {mg : Str → Option Value} {base : Heap} {fa : Nat → Addr} {fd : Nat → FuncData}
/-- good terms: what terms are drawn -/
def TrmOk (ws : List (List Nat)) (ts : List (Str × PyData)) : Prop := (ts.length = 1 ∨ ts.length = 2) ∧ termsD (trmD ts) = true ∧ (∀ t ∈ ts, okR t.2 ∧ ∃ x ∈ ws, t.1 = SX.S x)
def spTerms : Sp := fun vs H Q _ => ∃ (a c p : Addr) (ws : List (List Nat)) (m : Int), vs = [.ref a, .ref p, .int m] ∧ FeedOk H a c ∧ p ≠ a ∧ H p = some (.lst (ws.map vS)) ∧ ws ≠ [] ∧ ws.length ≤ 6 ∧ ws.Nodup ∧ (∀ x ∈ ws, nameB x = true ∧ x.length ≤ 7) ∧
  ∀ (v : V) (ts : List (Str × PyData)) (H' : Hp), FeedOk H' a c → But a H H' → Dt a H' v (trmD ts) → TrmOk ws ts → Q v H'
theorem ok_terms (T : Txt K mg fa fd) : FnOk P w K mg base CX0 4 (fa 42) (fd 42) ["_law_feed_here", "_law_words_here", "_law_pairs"] spTerms := by
  refine T.F_terms.ok sc_terms (fun vs H Q E h => ?_) (fun cdv A outer s H vs Q E hr h => ?_)
  · obtain ⟨a, c, p, ws, m, rfl, _⟩ := h
    rfl
  · obtain ⟨a, c, p, ws, m, rfl, hF, npa, hp, ne, hl, hn, hw, q⟩ := h
    refine ⟨_, (C8.pss_cut (ps_set (i := 3) sc_terms.nd rfl (.inl rfl) (pe_call (ok_draw T) (hr.mono (by decide)) (by rfl) T.g_draw T.F_draw.kp T.b_draw .nil pass0 (pa_cons (pv 0) (pa_cons (pe_callB call_len_seq (by rfl) T.m_len PySem.boot_len (pa_cons (pv 1) pa_nil)) pa_nil))))
      (C8.pss_cut (ps_set (i := 4) sc_terms.nd rfl (.inl rfl) (pe_lst (pa_cons (pe_ix ix_list (pv 1) (pv 3) (fun _ _ => rfl)) pa_nil)))
      (C8.pss_cut (ps_if (PW.pt (pw_and (pt_cmpR op_gt (pe_callB call_len_seq (by rfl) T.m_len PySem.boot_len (pa_cons (pv 1) pa_nil)) pe_int (nomark _)) (pw_and1 (pt_cmpR op_lt (pe_call (ok_draw T) (hr.mono (by decide)) (by rfl) T.g_draw T.F_draw.kp T.b_draw .nil pass0 (pa_cons (pv 0) (pa_cons pe_int pa_nil))) (pv 2) (nomark _))))) (pss_one (ps_expr (pe_bm PySem.F.plainAttrs_list PySem.F.slot_list_append PySem.F.type_list_append mt_append (pv 4) (pa_cons (pe_ix ix_list (pv 1) (pe_op op_mod (pe_callTy call_int1 (by rfl) T.m_int PySem.Pv.boot_int (pa_cons (pe_op op_add (pe_op op_add (pv 3) pe_int) (pe_call (ok_draw T) (hr.mono (by decide)) (by rfl) T.g_draw T.F_draw.kp T.b_draw .nil pass0 (pa_cons (pv 0) (pa_cons (pe_op op_sub (pe_callB call_len_seq (by rfl) T.m_len PySem.boot_len (pa_cons (pv 1) pa_nil)) pe_int) pa_nil)))) pa_nil)) (pe_callB call_len_seq (by rfl) T.m_len PySem.boot_len (pa_cons (pv 1) pa_nil))) (fun _ _ => rfl)) pa_nil)))) pss_nil)
      (pss_one (ps_ret (pe_callTy call_tuple_of (by rfl) T.m_tuple (by decide +kernel) (pa_cons (pe_lc (own := [("_law_name", 5)]) (g := gName 5) (tt := tYes) rfl sc_terms.nd (pi_list (pe_callB cr_sortedS (by rfl) T.m_sorted (by decide +kernel) (pa_cons (pv 4) pa_nil))) (blkOk_by (own := [("_law_name", 5)]) (N := ["_law_feed_here", "_law_words_here", "_law_pairs", "_law_one", "_law_chosen", "_law_name"]) (sc := defScope s_terms) (by decide +kernel)) (fun _ _ _ _ _ => pg_name (i := 5) sc_terms.nd rfl (Or.inl rfl)) (fun _ _ _ _ _ => pts_nil) (fun _ _ _ _ _ => (pe_tup (pa_cons (pv 5) (pa_cons (pe_call (ok_rate T) (hr.mono (by decide)) (by rfl) T.g_rate T.F_rate.kp T.b_rate .nil pass0 (pa_cons (pv 0) pa_nil)) pa_nil))))) pa_nil))))))), ?_⟩
    have l0 : 0 < ws.length := by
      cases ws with
      | nil => exact absurd rfl ne
      | cons _ _ => simp
    have lv : (ws.map vS).length = ws.length := List.length_map ..
    refine ⟨fun σ H1 => FeedOk H1 a c ∧ But a H H1 ∧ ∃ i : Nat, i < ws.length ∧ σ = [some (.ref a), some (.ref p), some (.int m), some (.int i), none, none], ?_, fun σ H1 hM => ?_⟩
    · refine ⟨_, rfl, _, rfl, p, _, rfl, .inl (SqL.of hp), a, c, _, rfl, hF, mid_of (by omega) (by omega), fun r H1 r0 r1 hF1 b1 => ?_⟩
      obtain ⟨i, rfl⟩ := Int.eq_ofNat_of_zero_le r0
      exact ⟨hF1, b1, i, by omega, rfl⟩
    · obtain ⟨hF1, b1, i, hi, rfl⟩ := hM
      have gi : (ws.map vS)[i]? = some (vS ws[i]) := by rw [List.getElem?_map, List.getElem?_eq_getElem hi]; rfl
      -- chosen
      refine ⟨fun σ H2 => Same H1 H2 ∧ ∃ C, C ≠ a ∧ C ≠ c ∧ H C = none ∧ H2 C = some (.lst ([ws[i]].map vS)) ∧ σ = [some (.ref a), some (.ref p), some (.int m), some (.int i), some (.ref C), none], ?_, fun σ H2 hM => ?_⟩
      · refine ⟨_, rfl, _, rfl, p, _, _, _, rfl, rfl, SqL.of (b1 _ _ npa hp), at_of (j := i) rfl gi, small_line (by show 1 ≤ 1000; decide), fun C nC => ?_⟩
        exact ⟨same_upd nC, C, new_ne hF1 nC, new_nc hF1 nC, but_none b1 nC (new_ne hF1 nC), upd_same, rfl⟩
      · obtain ⟨s2, C, nCa, nCc, nC, hC, rfl⟩ := hM
        have hF2 := hF1.same s2
        have b2 := b1.trans (But.of (a := a) s2)
        clear hF1 b1 s2 H1
        -- one more
        refine ⟨fun σ H3 => FeedOk H3 a c ∧ But a H H3 ∧ ∃ xs : List (List Nat), (xs.length = 1 ∨ xs.length = 2) ∧ xs.Nodup ∧ (∀ x ∈ xs, x ∈ ws) ∧ H3 C = some (.lst (xs.map vS)) ∧ σ = [some (.ref a), some (.ref p), some (.int m), some (.int i), some (.ref C), none], ?_, fun σ H3 hM => ?_⟩
        · have stay : ∀ H3, FeedOk H3 a c → But a H2 H3 → (FeedOk H3 a c ∧ But a H H3 ∧ ∃ xs : List (List Nat), (xs.length = 1 ∨ xs.length = 2) ∧ xs.Nodup ∧ (∀ x ∈ xs, x ∈ ws) ∧ H3 C = some (.lst (xs.map vS)) ∧ [some (V.ref a), some (.ref p), some (.int m), some (.int (i : Int)), some (.ref C), none] = [some (.ref a), some (.ref p), some (.int m), some (.int i), some (.ref C), none]) := fun H3 hF3 b3 =>
            ⟨hF3, b2.trans b3, [ws[i]], .inl rfl, by simp, fun x hx => by rw [List.mem_singleton.mp hx]; exact List.getElem_mem hi, b3 _ _ nCa hC, rfl⟩
          refine ⟨_, rfl, p, _, rfl, .inl (SqL.of (b2 _ _ npa hp)), _, _, rfl, rfl, _, rfl, ite2 (fun e => ?_) (fun _ => stay H2 hF2 (But.refl _ _))⟩
          have e : (1 : Int) < ((ws.map vS).length : Int) := of_decide_eq_true e
          rw [lv] at e
          refine ⟨_, rfl, a, c, _, rfl, hF2, mid_of (by decide) (by decide), fun r H3 _ _ hF3 b3 => ?_⟩
          refine ⟨_, rfl, _, _, rfl, rfl, _, rfl, ite2 (fun _ => ?_) (fun _ => stay H3 hF3 b3)⟩
          have hp3 := b3 _ _ npa (b2 _ _ npa hp)
          refine ⟨_, rfl, .inl ⟨rfl, _, SqL.of (b3 _ _ nCa hC)⟩, _, rfl, _, rfl, _, _, rfl, rfl, _, rfl, _, rfl, p, _, rfl, .inl (SqL.of hp3), _, _, rfl, rfl, a, c, _, rfl, hF3, mid_of (by omega) (by omega), fun r2 H4 r3 r4 hF4 b4 => ?_⟩
          rw [lv] at r4
          have hp4 := b4 _ _ npa hp3
          have hC4 := b4 _ _ nCa (b3 _ _ nCa hC)
          obtain ⟨j, hj, ej, ji⟩ : ∃ j : Nat, j < ws.length ∧ ((i : Int) + 1 + r2) % ((ws.map vS).length : Int) = (j : Int) ∧ j ≠ i := by
            rw [lv]
            refine ⟨(((i : Int) + 1 + r2) % (ws.length : Int)).toNat, ?_, ?_, ?_⟩
            · have h1 := Int.emod_lt_of_pos ((i : Int) + 1 + r2) (show (0 : Int) < ws.length by omega)
              omega
            · have h0 := Int.emod_nonneg ((i : Int) + 1 + r2) (show (ws.length : Int) ≠ 0 by omega)
              omega
            · intro z
              have h0 := Int.emod_nonneg ((i : Int) + 1 + r2) (show (ws.length : Int) ≠ 0 by omega)
              by_cases c1 : (i : Int) + 1 + r2 < ws.length
              · rw [Int.emod_eq_of_lt (by omega) c1] at z
                omega
              · have e2 : ((i : Int) + 1 + r2) % (ws.length : Int) = (i : Int) + 1 + r2 - ws.length := by
                  rw [← Int.sub_emod_right, Int.emod_eq_of_lt (by omega) (by omega)]
                rw [e2] at z
                omega
          have gj : (ws.map vS)[j]? = some (vS ws[j]) := by rw [List.getElem?_map, List.getElem?_eq_getElem hj]; rfl
          refine ⟨_, _, rfl, rfl, .inl ⟨_, rfl, _, rfl, p, _, rfl, .inl (SqL.of hp4), _, _, rfl, rfl, (by show (0 : Int) < _; omega), p, _, _, _, rfl, rfl, SqL.of hp4, at_of (j := j) ej gj, ?_⟩⟩
          refine ⟨C, _, _, rfl, rfl, hC4, small1000 (by show 1 ≤ 1000; decide), ?_⟩
          refine ⟨hF4.put nCa nCc, ((b2.trans b3).trans b4).updN nC, [ws[i], ws[j]], .inr rfl, ?_, ?_, upd_same, rfl⟩
          · refine List.nodup_cons.mpr ⟨fun z => ?_, by simp⟩
            rw [List.mem_singleton] at z
            exact ji (nd_ix hn (List.getElem?_eq_getElem hi) (by rw [List.getElem?_eq_getElem hj, z])).symm
          · intro x hx
            rcases List.mem_cons.mp hx with rfl | hx
            · exact List.getElem_mem hi
            · rw [List.mem_singleton.mp hx]
              exact List.getElem_mem hj
        · clear hC hF2 b2 H2
          obtain ⟨hF3, b3, xs, hx, hxn, hxw, hC, rfl⟩ := hM
          have hCS : H3 C = some (.lst ((xs.map SX.S).map V.str)) := by
            rw [List.map_map]
            exact hC
          refine ⟨_, rfl, C, _, rfl, SqL.of hCS, by rw [List.length_map]; omega, fun zs r pm srt nr => ?_⟩
          have sr := same_upd (o := .lst (zs.map V.str)) nr
          have hF4 := hF3.same sr
          have b4 := b3.trans (But.of (a := a) sr)
          have nra := new_ne hF3 nr
          have nr0 := but_none b3 nr nra
          have hr4 : (upd H3 r (.lst (zs.map V.str))) r = some (.lst (zs.map V.str)) := upd_same
          generalize upd H3 r (.lst (zs.map V.str)) = H4 at hF4 b4 hr4 ⊢
          refine ⟨r, rfl, ⟨_, SqL.of hr4⟩, fun D nD => ?_⟩
          have nDa := new_ne hF4 nD
          have nDc := new_nc hF4 nD
          have nD0 := but_none b4 nD nDa
          have nDr : r ≠ D := ne_of_none hr4 nD
          have zl : zs.length ≤ 2 := by
            rw [pm.length_eq, List.length_map]
            omega
          refine lc_list (K := K) (a := r) (xs := zs.map V.str) (fun i H5 => FeedOk H5 a c ∧ But a H H5 ∧ H5 r = some (.lst (zs.map V.str)) ∧ ∃ (vs : List V) (ts : List (Str × PyData)), H5 D = some (.lst vs) ∧ DtAll a H5 vs (ts.map trm1) ∧ ts.map (·.1) = zs.take i ∧ ∀ t ∈ ts, okR t.2)
            ⟨hF4.new nD, b4.updN nD0, same_upd nD _ _ hr4, [], [], upd_same, .nil, rfl, fun t h => by cases h⟩ (fun i H5 _ hq => SqL.of hq.2.2.1) (fun i x H5 hx hq => ?_) (fun H5 hq => ?_)
          · obtain ⟨hF5, b5, hr5, vs, ts, hD, hts, hnm, hok⟩ := hq
            rw [List.getElem?_map] at hx
            obtain ⟨x, hxz, rfl⟩ := Option.map_eq_some_iff.mp hx
            refine ⟨rfl, _, rfl, _, rfl, a, c, rfl, hF5, fun v t u H6 hF6 b6 hR t0 tb ub => ⟨two_line, fun e ne => ?_⟩⟩
            have hD6 := b6 _ _ nDa hD
            have xl : x.length ≤ 1000 := by
              obtain ⟨y, hy, rfl⟩ := List.mem_map.mp (pm.mem_iff.mp (List.mem_of_getElem? hxz))
              rw [SX.S_len]
              have := (hw y (hxw y hy)).2
              omega
            obtain ⟨se, de⟩ := dnewT (z := a) ne (.cons (.str x xl) (.cons hR.1 .nil))
            have hD7 := se _ _ hD6
            have hts7 := hts.tups (z' := a) ((TT.but hF5 b6).trans (TT.of se)) _ _ (noLs_trms hok)
            have vl : vs.length < sizeLine := by
              have e1 := hts.len
              rw [List.length_map, ← List.length_map (f := Prod.fst) (as := ts), hnm, List.length_take] at e1
              exact small1000 (by omega)
            refine ⟨vs, hD7, vl, (hF6.same se).put nDa nDc, ((b5.trans b6).trans (But.of se)).updN nD0, ?_, vs ++ [.ref e], ts ++ [(x, frD t u)], upd_same, ?_, ?_, ?_⟩
            · rw [upd_ne nDr]
              exact se _ _ (b6 _ _ nra hr5)
            · rw [List.map_append]
              refine DtAll.snoc (hts7.tups (TT.upd hD7) _ _ (noLs_trms hok)) ?_
              exact Dt.tups (TT.upd hD7) _ _ rfl de
            · rw [List.map_append, hnm, List.take_add_one, hxz]
              rfl
            · intro s hs
              rcases List.mem_append.mp hs with h | h
              · exact hok s h
              · rw [List.mem_singleton.mp h]
                exact ⟨hR.2, decide_eq_true t0, decide_eq_true ⟨tb, ub⟩⟩
          · obtain ⟨hF5, b5, hr5, vs, ts, hD, hts, hnm, hok⟩ := hq
            rw [List.length_map, List.take_length] at hnm
            refine ⟨D, vs, rfl, .inl ⟨SqL.of hD, fun l nl => ?_⟩⟩
            have sl := same_upd (o := .tup vs) nl
            refine q (.ref l) ts _ (hF5.same sl) (b5.trans (But.of sl)) (.tup upd_same (hts.same sl)) ?_
            have nm : ∀ t ∈ ts, ∃ x ∈ ws, t.1 = SX.S x := fun t ht => by
              have : t.1 ∈ zs := by
                rw [← hnm]
                exact List.mem_map_of_mem ht
              obtain ⟨y, hy, e⟩ := List.mem_map.mp (pm.mem_iff.mp this)
              exact ⟨y, hxw y hy, e.symm⟩
            have tl : ts.length = xs.length := by
              rw [← List.length_map (f := Prod.fst), hnm, pm.length_eq, List.length_map]
            have tr : ∀ t ∈ ts, termD (trm1 t) = true := fun t ht => by
              obtain ⟨x, hx, e⟩ := nm t ht
              show (nameB t.1.cps.toList && ratD t.2 && nonz t.2) = true
              rw [e, S_list, (hw x hx).1, (hok t ht).1, (hok t ht).2.1]
              rfl
            refine ⟨by omega, ?_, fun t ht => ⟨hok t ht, nm t ht⟩⟩
            have zn : zs.Nodup := by
              refine pm.nodup_iff.mpr ?_
              rw [List.Nodup, List.pairwise_map]
              exact List.Pairwise.imp (fun h z => h (S_inj z)) hxn
            match ts, tl, tr, hnm with
            | [t], _, tr, _ => exact tr t List.mem_cons_self
            | [t, u], _, tr, hnm =>
              show (termD (trm1 t) && termD (trm1 u) && ltD (trm1 t) (trm1 u)) = true
              rw [tr t List.mem_cons_self, tr u (List.mem_cons_of_mem _ List.mem_cons_self)]
              have hnm : [t.1, u.1] = zs := hnm
              subst hnm
              exact sorted_two srt (fun z => (List.nodup_cons.mp zn).1 (by rw [z]; exact List.mem_cons_self))
            | [], tl, _, _ => simp at tl; omega
            | _ :: _ :: _ :: _, tl, _, _ => simp at tl; omega
end
theorem lcmF_app (u : Int) : ∀ l r : List FR, lcmF u (l ++ r) = lcmF (lcmF u l) r := fun l r => by
  induction l generalizing u with
  | nil => rfl
  | cons f l ih => exact ih _
theorem gcdF_app (L g : Int) : ∀ l r : List FR, gcdF L g (l ++ r) = gcdF L (gcdF L g l) r := fun l r => by
  induction l generalizing g with
  | nil => rfl
  | cons f l ih => exact ih _
theorem gcdF_nn (L : Int) : ∀ (rs : List FR) (g : Int), 0 ≤ g → 0 ≤ gcdF L g rs
  | [], _, h => h
  | _ :: r, _, _ => gcdF_nn L r _ (Int.natCast_nonneg _)
def BdF (f : FR) : Prop := Bn 800 f ∧ 0 < f.2
def rts (tl : List (List Nat × FR)) : List FR := tl.map (·.2)
def redL (tl : List (List Nat × FR)) : List (List Nat × FR) := tl.map fun t => (t.1, redF (scl (rts tl)) t.2)
abbrev redP (tl : List (List Nat × FR)) (b : FR) : PyData := tieP (redL tl) (redF (scl (rts tl)) b)
def TlOk (tl : List (List Nat × FR)) : Prop := (tl.length = 1 ∨ tl.length = 2) ∧ ∀ t ∈ tl, t.2.1 ≠ 0 ∧ BdF t.2 ∧ t.1.length ≤ 7
theorem TlOk.rs {tl : List (List Nat × FR)} (h : TlOk tl) : RsOk (rts tl) := by
  refine ⟨fun z => ?_, fun f hf => ?_⟩
  · cases tl with
    | nil => have := h.1; simp at this
    | cons t r => cases z
  · obtain ⟨t, ht, rfl⟩ := List.mem_map.mp hf
    exact ⟨(h.2 t ht).2.1.2, (h.2 t ht).1⟩
theorem step_le {u d : Int} (hu : 0 < u) (hd : 0 < d) : (u * d).fdiv (Int.gcd u d : Nat) ≤ u * d := by
  have gp : 0 < Int.gcd u d := gcd_pos (by omega)
  have h := Int.mul_pos hu hd
  rw [Int.fdiv_eq_ediv_of_nonneg _ (by omega)]
  exact Int.ediv_le_self _ (by omega)
theorem tl_sizes {tl : List (List Nat × FR)} (h : TlOk tl) : ∀ i, 0 < lcmF 1 (rts (tl.take i)) ∧ (lcmF 1 (rts (tl.take i))).natAbs < 2 ^ 1600 := fun i => by
  have hd : ∀ f ∈ rts (tl.take i), 0 < f.2 ∧ f.2.natAbs < 2 ^ 800 := fun f hf => by
    obtain ⟨t, ht, rfl⟩ := List.mem_map.mp hf
    have := (h.2 t (List.mem_of_mem_take ht)).2.1
    exact ⟨this.2, this.1.2⟩
  have hl : (rts (tl.take i)).length ≤ 2 := by
    unfold rts
    rw [List.length_map, List.length_take]
    have := h.1
    omega
  refine ⟨(lcmF_ok _ 1 (by decide) fun f hf => (hd f hf).1).1, ?_⟩
  have one : ∀ f : FR, 0 < f.2 → (1 * f.2).fdiv (Int.gcd 1 f.2 : Nat) = f.2 := fun f _ => by
    rw [Int.one_mul, Int.gcd_comm, Int.gcd_one_right]
    exact Int.fdiv_one _
  match rts (tl.take i), hl, hd with
  | [], _, _ => exact Nat.lt_of_lt_of_le (show 1 < 2 ^ 1 by decide) (Nat.pow_le_pow_right (by decide) (by decide))
  | [f], _, hd =>
    show ((1 * f.2).fdiv _).natAbs < _
    rw [one f (hd f List.mem_cons_self).1]
    exact Nat.lt_of_lt_of_le (hd f List.mem_cons_self).2 (Nat.pow_le_pow_right (by decide) (by decide))
  | [f, g], _, hd =>
    show ((((1 * f.2).fdiv (Int.gcd 1 f.2 : Nat)) * g.2).fdiv (Int.gcd ((1 * f.2).fdiv (Int.gcd 1 f.2 : Nat)) g.2 : Nat)).natAbs < _
    have hf := hd f List.mem_cons_self
    have hg := hd g (List.mem_cons_of_mem _ List.mem_cons_self)
    rw [one f hf.1]
    have h1 := step_le hf.1 hg.1
    have h2 : 0 ≤ (f.2 * g.2).fdiv (Int.gcd f.2 g.2 : Nat) := by
      have := Int.mul_pos hf.1 hg.1
      rw [Int.fdiv_eq_ediv_of_nonneg _ (by omega)]
      exact Int.ediv_nonneg (by omega) (by omega)
    have h3 : (f.2 * g.2).natAbs < 2 ^ (800 + 800) := by rw [Int.natAbs_mul]; exact pow_mul_lt hf.2 hg.2
    exact Nat.lt_of_le_of_lt (show ((f.2 * g.2).fdiv (Int.gcd f.2 g.2 : Nat)).natAbs ≤ (f.2 * g.2).natAbs by omega) h3
  | _ :: _ :: _ :: _, h, _ => simp at h
theorem lcm_first {t : List Nat × FR} {r : List (List Nat × FR)} (h : TlOk (t :: r)) : ∃ e : Nat, e < 2 ^ 800 ∧ (lcmF 1 (rts (t :: r))).natAbs ≤ t.2.2.natAbs * e := by
  have one : ∀ f : FR, 0 < f.2 → (1 * f.2).fdiv (Int.gcd 1 f.2 : Nat) = f.2 := fun f _ => by
    rw [Int.one_mul, Int.gcd_comm, Int.gcd_one_right]
    exact Int.fdiv_one _
  have ht := (h.2 t List.mem_cons_self).2.1
  match r, h with
  | [], h =>
    refine ⟨1, Nat.lt_of_lt_of_le (show 1 < 2 ^ 1 by decide) (Nat.pow_le_pow_right (by decide) (by decide)), ?_⟩
    show ((1 * t.2.2).fdiv _).natAbs ≤ _
    rw [one t.2 ht.2, Nat.mul_one]
    exact Nat.le_refl _
  | [g], h =>
    have hg := (h.2 g (List.mem_cons_of_mem _ List.mem_cons_self)).2.1
    refine ⟨g.2.2.natAbs, hg.1.2, ?_⟩
    show ((((1 * t.2.2).fdiv (Int.gcd 1 t.2.2 : Nat)) * g.2.2).fdiv (Int.gcd ((1 * t.2.2).fdiv (Int.gcd 1 t.2.2 : Nat)) g.2.2 : Nat)).natAbs ≤ _
    rw [one t.2 ht.2, ← Int.natAbs_mul]
    have h1 := step_le ht.2 hg.2
    have h2 : 0 ≤ (t.2.2 * g.2.2).fdiv (Int.gcd t.2.2 g.2.2 : Nat) := by
      have := Int.mul_pos ht.2 hg.2
      rw [Int.fdiv_eq_ediv_of_nonneg _ (by omega)]
      exact Int.ediv_nonneg (by omega) (by omega)
    omega
  | _ :: _ :: _, h => exact absurd h.1 (by simp)
theorem scl_ok {tl : List (List Nat × FR)} (h : TlOk tl) : 0 < lcmF 1 (rts tl) ∧ (lcmF 1 (rts tl)).natAbs < 2 ^ 1600 ∧ 0 < gcdF (lcmF 1 (rts tl)) 0 (rts tl) ∧ (gcdF (lcmF 1 (rts tl)) 0 (rts tl)).natAbs < 2 ^ 1600 := by
  obtain ⟨L, G, Lp, Gp, eL, eG, m, hm, hg⟩ := red_facts h.rs
  have s := tl_sizes h tl.length
  rw [List.take_length] at s
  rw [eL] at s ⊢
  rw [eG]
  refine ⟨Lp, s.2, Gp, ?_⟩
  obtain ⟨t, r, rfl⟩ : ∃ t r, tl = t :: r := by
    cases tl with
    | nil => have := h.1; simp at this
    | cons t r => exact ⟨t, r, rfl⟩
  obtain ⟨e0, he0, hL⟩ := lcm_first h
  rw [eL] at hL
  have e := hm t.2 List.mem_cons_self
  have ht := h.2 t List.mem_cons_self
  have e2 : L.natAbs * t.2.1.natAbs = (m t.2 * t.2.2).natAbs * G.natAbs := by
    rw [← Int.natAbs_mul, ← Int.natAbs_mul, ← e, Int.mul_right_comm]
  have ne : (m t.2 * t.2.2).natAbs ≠ 0 := fun z => by
    rw [z, Nat.zero_mul] at e2
    have := Nat.mul_eq_zero.mp e2
    have := ht.1
    omega
  rw [Int.natAbs_mul] at e2 ne
  have mp : 0 < (m t.2).natAbs := Nat.pos_of_ne_zero fun z => ne (by rw [z, Nat.zero_mul])
  have dp : 0 < t.2.2.natAbs := Nat.pos_of_ne_zero fun z => ne (by rw [z, Nat.mul_zero])
  have h1 : t.2.2.natAbs * G.natAbs ≤ t.2.2.natAbs * (e0 * t.2.1.natAbs) := by
    refine Nat.le_trans ?_ (show L.natAbs * t.2.1.natAbs ≤ _ from Nat.le_trans (Nat.mul_le_mul_right _ hL) (Nat.le_of_eq (Nat.mul_assoc _ _ _)))
    rw [e2, Nat.mul_assoc]
    exact Nat.le_mul_of_pos_left _ mp
  have h2 := Nat.le_of_mul_le_mul_left h1 dp
  exact Nat.lt_of_le_of_lt h2 (pow_mul_lt (k := 800) (j := 800) he0 ht.2.1.1.1)
theorem scl_sm {tl : List (List Nat × FR)} (h : TlOk tl) : Bn 1600 (scl (rts tl)) ∧ 0 < (scl (rts tl)).2 ∧ 0 < (scl (rts tl)).1 := by
  obtain ⟨h1, h2, h3, h4⟩ := scl_ok h
  unfold scl lowF
  generalize lcmF 1 (rts tl) = L at *
  generalize gcdF L 0 (rts tl) = G at *
  have d := lowD_pos (u := L) (v := G) (by omega)
  have e := lowT_self (u := L) (v := G) (by omega)
  refine ⟨Bn.low (by omega) h2 h4, d, ?_⟩
  show 0 < lowT L G
  have := Int.mul_pos h1 d
  rw [← e] at this
  rcases Int.lt_trichotomy (lowT L G) 0 with h | h | h
  · have := Int.mul_neg_of_neg_of_pos h h3
    omega
  · rw [h, Int.zero_mul] at this
    omega
  · exact h
section
variable {P : Program} {w : World} {K : PySem.W.Frag} {mg : Str → Option Value} {base : Heap} {fa : Nat → Addr} {fd : Nat → FuncData}
theorem low_mul_bd {f g : FR} {k m : Nat} (hf : Bn k f) (hg : Bn m g) (hk : k + m ≤ 4096) (h : f.2 * g.2 ≠ 0) : Bd (lowT (f.1 * g.1) (f.2 * g.2)) ∧ Bd (lowD (f.1 * g.1) (f.2 * g.2)) := by
  have mm : ∀ {x y : Int}, x.natAbs < 2 ^ k → y.natAbs < 2 ^ m → (x * y).natAbs < 2 ^ 4096 := fun hx hy => by
    rw [Int.natAbs_mul]
    exact Nat.lt_of_lt_of_le (pow_mul_lt hx hy) (Nat.pow_le_pow_right (by decide) hk)
  exact ⟨log_lt (Nat.lt_of_le_of_lt (lowT_abs h) (mm hf.1 hg.1)) (by decide), log_lt (Nat.lt_of_le_of_lt (lowD_abs h) (mm hf.2 hg.2)) (by decide)⟩
theorem noLs_tm : ∀ l : List (List Nat × FR), noLs (l.map tmP) = true
  | [] => rfl
  | _ :: l => by
    show (true && noLs (l.map tmP)) = true
    rw [noLs_tm l]
    rfl
def spReduced : Sp := fun vs H Q _ => ∃ v tl b z, vs = [v] ∧ Dt z H v (tieP tl b) ∧ TlOk tl ∧ BdF b ∧ ∀ v' H', Same H H' → Dt z H' v' (redP tl b) → Q v' H'
end
section
variable {P : Program} {w : World} {K : PySem.W.Frag} {mg : Str → Option Value} {base : Heap} {fa : Nat → Addr} {fd : Nat → FuncData}
theorem ok_brief (T : Txt K mg fa fd) : FnOk P w K mg base CX0 5 (fa 43) (fd 43) ["_law_tie"] spReduced := by
  refine T.F_brief.ok sc_brief (fun vs H Q E h => ?_) (fun cdv A outer s H vs Q E hr h => ?_)
  · obtain ⟨v, tl, b, z, rfl, _⟩ := h
    rfl
  · obtain ⟨v, tl, b, z, rfl, hv, hok, hb, q⟩ := h
    refine ⟨_, (C8.pss_cut (ps_asg (pe_tup (pa_cons pe_int (pa_cons pe_int pa_nil))) (pg_tup (by rfl) (pgs_cons (pg_name (i := 1) sc_brief.nd rfl (.inl rfl)) (pgs_cons (pg_name (i := 2) sc_brief.nd rfl (.inl rfl)) pgs_nil))))
      (C8.pss_cut (ps_for PassesOwn.never rfl (pi_tup (pe_ix ix_tup (pv 0) pe_int (fun _ _ => rfl))) (pg_tup (by rfl) (pgs_cons (pg_name (i := 3) sc_brief.nd rfl (.inl rfl)) (pgs_cons (pg_name (i := 4) sc_brief.nd rfl (.inl rfl)) pgs_nil))) (pss_one (ps_set (i := 1) sc_brief.nd rfl (.inl rfl) (pe_op op_fdivG (pe_op op_mulW (pv 1) (pe_ix ix_tup (pv 4) pe_int (fun _ _ => rfl))) (pe_call (ok_gcd T) (hr.mono (by decide)) (by rfl) T.g_gcd T.F_gcd.kp T.b_gcd .nil pass0 (pa_cons (pv 1) (pa_cons (pe_ix ix_tup (pv 4) pe_int (fun _ _ => rfl)) pa_nil)))))))
      (C8.pss_cut (ps_for PassesOwn.never rfl (pi_tup (pe_ix ix_tup (pv 0) pe_int (fun _ _ => rfl))) (pg_tup (by rfl) (pgs_cons (pg_name (i := 3) sc_brief.nd rfl (.inl rfl)) (pgs_cons (pg_name (i := 4) sc_brief.nd rfl (.inl rfl)) pgs_nil))) (pss_one (ps_set (i := 2) sc_brief.nd rfl (.inl rfl) (pe_call (ok_gcd T) (hr.mono (by decide)) (by rfl) T.g_gcd T.F_gcd.kp T.b_gcd .nil pass0 (pa_cons (pv 2) (pa_cons (pe_op op_mulW (pe_ix ix_tup (pv 4) pe_int (fun _ _ => rfl)) (pe_op op_fdivG (pv 1) (pe_ix ix_tup (pv 4) pe_int (fun _ _ => rfl)))) pa_nil))))))
      (C8.pss_cut (ps_set (i := 5) sc_brief.nd rfl (.inr rfl) (pe_call (ok_low T) (hr.mono (by decide)) (by rfl) T.g_low T.F_low.kp T.b_low .nil pass0 (pa_cons (pv 1) (pa_cons (pv 2) pa_nil))))
      (pss_one (ps_ret (pe_tup (pa_cons (pe_callTy call_tuple_of (by rfl) T.m_tuple (by decide +kernel) (pa_cons (pe_lc (own := [("_law_name", 3), ("_law_rate_here", 4)]) (g := gTup K 2 (gCons (gName 3) (gCons (gName 4) gNil))) (tt := tYes) rfl sc_brief.nd (pi_tup (pe_ix ix_tup (pv 0) pe_int (fun _ _ => rfl))) (blkOk_by (own := [("_law_name", 3), ("_law_rate_here", 4)]) (N := ["_law_tie", "_law_whole", "_law_part", "_law_name", "_law_rate_here", "_law_scale"]) (sc := defScope s_brief) (by decide +kernel)) (fun _ _ _ _ _ => pg_tup rfl (pgs_cons (pg_name (i := 3) sc_brief.nd rfl (Or.inl rfl)) (pgs_cons (pg_name (i := 4) sc_brief.nd rfl (Or.inl rfl)) pgs_nil))) (fun _ _ _ _ _ => pts_nil) (fun _ _ _ _ _ => (pe_tup (pa_cons (pv 3) (pa_cons (pe_call (ok_by T) (hr.mono (by decide)) (by rfl) T.g_by T.F_by.kp T.b_by .nil pass0 (pa_cons (pv 4) (pa_cons (pv 5) pa_nil))) pa_nil))))) pa_nil)) (pa_cons (pe_call (ok_by T) (hr.mono (by decide)) (by rfl) T.g_by T.F_by.kp T.b_by .nil pass0 (pa_cons (pe_ix ix_tup (pv 0) pe_int (fun _ _ => rfl)) (pa_cons (pv 5) pa_nil))) pa_nil))))))))), ?_⟩
    obtain ⟨P, t, y, xs, rfl, hP, ht, hts, hy⟩ := tie_inv hv
    obtain ⟨pb, rfl, hpb⟩ := dt_fr hy
    have xl : xs.length = tl.length := by
      have := hts.len
      rw [List.length_map] at this
      exact this
    refine ⟨fun σ H2 => Same H H2 ∧ σ = [some (.ref P), some (.int 1), some (.int 0), none, none, none], ⟨two_line, fun e ne => ⟨e, _, rfl, .inl (.inl upd_same), rfl, _, _, rfl, _, _, rfl, rfl, same_upd ne, rfl⟩⟩, fun σ H2 hM => ?_⟩
    obtain ⟨s2, rfl⟩ := hM
    have hP := s2 _ _ hP
    have ht := s2 _ _ ht
    have hts := hts.same s2
    have hpb := s2 _ _ hpb
    -- under
    refine ⟨fun σ H3 => H3 = H2 ∧ ∃ y4 y5, σ = [some (.ref P), some (.int (lcmF 1 (rts tl))), some (.int 0), y4, y5, none], ?_, fun σ H3 hM => ?_⟩
    · refine ⟨_, rfl, P, _, _, _, rfl, rfl, SqT.of hP, rfl, t, rfl, ⟨_, SqT.of ht⟩, for_tup (K := K) (a := t) (xs := xs) (fun i σ H3 => H3 = H2 ∧ ∃ y4 y5, σ = [some (.ref P), some (.int (lcmF 1 (rts (tl.take i)))), some (.int 0), y4, y5, none]) ⟨rfl, _, _, rfl⟩ (fun i σ H3 _ hp => by rw [hp.1]; exact SqT.of ht) (fun i x σ H3 hx hp => ?_) (fun σ H3 hp => ?_)⟩
      · obtain ⟨rfl, y4, y5, rfl⟩ := hp
        obtain ⟨d, hd, hdt⟩ := DtAll.at i hts hx
        rw [List.getElem?_map] at hd
        obtain ⟨⟨n, f⟩, he, rfl⟩ := Option.map_eq_some_iff.mp hd
        have tok : f.1 ≠ 0 ∧ BdF f ∧ n.length ≤ 7 := hok.2 _ (List.mem_of_getElem? he)
        change Dt _ _ _ (.tuple [.str (SX.S n), frP f]) at hdt
        match x, hdt with
        | _, .tup (a := pp) hpp (.cons (.str _ _) (.cons hr .nil)) =>
          obtain ⟨pr, rfl, hpr⟩ := dt_fr hr
          have sz := tl_sizes hok i
          have lp : 0 < f.2 := tok.2.1.2
          refine ⟨pp, _, rfl, .inl (.inl hpp), rfl, _, _, rfl, _, _, rfl, rfl, _, rfl, _, rfl, pr, _, _, _, rfl, rfl, SqT.of hpr, t1, _, _, rfl, rfl, wide (f := f) (g := f) (k := 1600) (by decide) sz.2 (Nat.lt_of_lt_of_le tok.2.1.1.2 (Nat.pow_le_pow_right (by decide) (by decide))), _, rfl, _, rfl, pr, _, _, _, rfl, rfl, SqT.of hpr, t1, _, _, rfl, _, _, rfl, rfl, ⟨?_, ?_⟩, rfl, some (.str (SX.S n)), some (.ref pr), ?_⟩
          · have := gcd_pos (u := lcmF 1 (rts (tl.take i))) (v := f.2) (by omega)
            omega
          · rw [Int.natAbs_natCast]
            have := gcd_le (u := lcmF 1 (rts (tl.take i))) (v := f.2) (by omega)
            exact log_lt (Nat.lt_of_le_of_lt this (Nat.lt_of_lt_of_le tok.2.1.1.2 (Nat.pow_le_pow_right (by decide) (show 800 ≤ 9000 by decide)))) (by decide)
          · rw [List.take_add_one, he]
            unfold rts
            rw [List.map_append, lcmF_app]
            rfl
      · obtain ⟨rfl, y4, y5, rfl⟩ := hp
        rw [xl, List.take_length]
        exact ⟨rfl, _, _, rfl⟩
    obtain ⟨rfl, y4, y5, rfl⟩ := hM
    obtain ⟨Lp, Lm, Gp, Gm⟩ := scl_ok hok
    have hscl : scl (rts tl) = lowF (lcmF 1 (rts tl)) (gcdF (lcmF 1 (rts tl)) 0 (rts tl)) := rfl
    obtain ⟨ssm, s2p, s1p⟩ := scl_sm hok
    have ssm := ssm.mono (show 1600 ≤ 2048 by decide)
    have Ldv := (lcmF_ok (rts tl) 1 (by decide) fun f hf => (hok.rs.2 f hf).1).2.2
    generalize lcmF 1 (rts tl) = L at *
    -- shared
    refine ⟨fun σ H5 => H5 = H3 ∧ ∃ y4 y5, σ = [some (.ref P), some (.int L), some (.int (gcdF L 0 (rts tl))), y4, y5, none], ?_, fun σ H5 hM => ?_⟩
    · refine ⟨_, rfl, P, _, _, _, rfl, rfl, SqT.of hP, rfl, t, rfl, ⟨_, SqT.of ht⟩, for_tup (K := K) (a := t) (xs := xs) (fun i σ H4 => H4 = H3 ∧ ∃ y4 y5, σ = [some (.ref P), some (.int L), some (.int (gcdF L 0 (rts (tl.take i)))), y4, y5, none]) ⟨rfl, _, _, rfl⟩ (fun i σ H3 _ hp => by rw [hp.1]; exact SqT.of ht) (fun i x σ H3 hx hp => ?_) (fun σ H3 hp => ?_)⟩
      · obtain ⟨rfl, y4, y5, rfl⟩ := hp
        obtain ⟨d, hd, hdt⟩ := DtAll.at i hts hx
        rw [List.getElem?_map] at hd
        obtain ⟨⟨n, f⟩, he, rfl⟩ := Option.map_eq_some_iff.mp hd
        have tok : f.1 ≠ 0 ∧ BdF f ∧ n.length ≤ 7 := hok.2 _ (List.mem_of_getElem? he)
        change Dt _ _ _ (.tuple [.str (SX.S n), frP f]) at hdt
        match x, hdt with
        | _, .tup (a := pp) hpp (.cons (.str _ _) (.cons hr .nil)) =>
          obtain ⟨pr, rfl, hpr⟩ := dt_fr hr
          have lp : 0 < f.2 := tok.2.1.2
          have le : (L.fdiv f.2).natAbs < 2 ^ 1600 := by
            have h1 : L.fdiv f.2 ≤ L ∧ 0 ≤ L.fdiv f.2 := by
              rw [Int.fdiv_eq_ediv_of_nonneg _ (by omega)]
              exact ⟨Int.ediv_le_self _ (by omega), Int.ediv_nonneg (by omega) (by omega)⟩
            exact Nat.lt_of_le_of_lt (show (L.fdiv f.2).natAbs ≤ L.natAbs by omega) Lm
          refine ⟨pp, _, rfl, .inl (.inl hpp), rfl, _, _, rfl, _, _, rfl, rfl, _, rfl, _, rfl, pr, _, _, _, rfl, rfl, SqT.of hpr, t0, _, rfl, _, rfl, pr, _, _, _, rfl, rfl, SqT.of hpr, t1, _, _, rfl, rfl, ⟨by omega, ?_⟩, _, _, rfl, rfl, wide (f := f) (g := f) (k := 1600) (by decide) (Nat.lt_of_lt_of_le tok.2.1.1.1 (Nat.pow_le_pow_right (by decide) (by decide))) le, _, _, rfl, rfl, some (.str (SX.S n)), some (.ref pr), ?_⟩
          · exact log_lt (Nat.lt_of_lt_of_le tok.2.1.1.2 (Nat.pow_le_pow_right (by decide) (show 800 ≤ 9000 by decide))) (by decide)
          · rw [List.take_add_one, he]
            unfold rts
            rw [List.map_append, gcdF_app, Int.mul_comm f.1]
            rfl
      · obtain ⟨rfl, y4, y5, rfl⟩ := hp
        rw [xl, List.take_length]
        exact ⟨rfl, _, _, rfl⟩
    clear y4 y5
    obtain ⟨rfl, y4, y5, rfl⟩ := hM
    generalize gcdF L 0 (rts tl) = G at *
    -- scale
    refine ⟨fun σ H6 => ∃ ps, H5 ps = none ∧ Same H5 H6 ∧ H6 ps = some (.tup [.int (scl (rts tl)).1, .int (scl (rts tl)).2]) ∧ σ = [some (.ref P), some (.int L), some (.int G), y4, y5, some (.ref ps)], ?_, fun σ H6 hM => ?_⟩
    · refine ⟨_, rfl, _, rfl, _, _, rfl, by omega, log_lt (Nat.lt_of_lt_of_le Gm (Nat.pow_le_pow_right (by decide) (show 1600 ≤ 4096 by decide))) (by decide), fun ps nps => ⟨ps, nps, same_upd nps, ?_, rfl⟩⟩
      rw [hscl]
      exact upd_same
    obtain ⟨ps, nps, s6, hps, rfl⟩ := hM
    have ht6 := s6 _ _ ht
    have hts6 := hts.same s6
    refine ⟨_, rfl, P, _, _, _, rfl, rfl, SqT.of (s6 _ _ hP), rfl, t, rfl, ⟨_, SqT.of ht6⟩, fun D nD => ?_⟩
    refine lc_tup (K := K) (a := t) (xs := xs) (fun i G => Same H6 G ∧ ∃ vs, G D = some (.lst vs) ∧ DtAll z G vs (((redL tl).take i).map tmP)) ⟨same_upd nD, [], upd_same, .nil⟩ (fun i G _ hq => SqT.of (hq.1 _ _ ht6)) (fun i x G hx hq => ?_) (fun G hq => ?_)
    · obtain ⟨sG, vs, hD, hvs⟩ := hq
      obtain ⟨d, hd, hdt⟩ := DtAll.at i hts6 hx
      rw [List.getElem?_map] at hd
      obtain ⟨⟨n, f⟩, he, rfl⟩ := Option.map_eq_some_iff.mp hd
      have tok : f.1 ≠ 0 ∧ BdF f ∧ n.length ≤ 7 := hok.2 _ (List.mem_of_getElem? he)
      change Dt _ _ _ (.tuple [.str (SX.S n), frP f]) at hdt
      have vl : vs.length < sizeLine := by
        have e1 := hvs.len
        rw [List.length_map, List.length_take] at e1
        have := hok.1
        have : (redL tl).length = tl.length := List.length_map ..
        exact small1000 (by omega)
      match x, hdt with
      | _, .tup (a := pp) hpp (.cons (.str _ hn) (.cons hr .nil)) =>
        obtain ⟨pr, rfl, hpr⟩ := dt_fr hr
        refine ⟨pp, _, rfl, .inl (.inl (sG _ _ hpp)), rfl, _, _, rfl, _, _, rfl, rfl, rfl, _, rfl, _, rfl, _, rfl, pr, ps, f, scl (rts tl), rfl, SqT.of (sG _ _ hpr), SqT.of (sG _ _ hps), tok.2.1.2, s2p, tok.2.1.1.mono (by decide), ssm, fun e ne => ?_⟩
        obtain ⟨se, de⟩ := dnewT (z := z) ne (.cons (.int (lowT (f.1 * (scl (rts tl)).1) (f.2 * (scl (rts tl)).2)) (low_mul_bd tok.2.1.1 ssm (by decide) (Int.mul_ne_zero (by have := tok.2.1.2; omega) (by omega))).1) (.cons (.int (lowD (f.1 * (scl (rts tl)).1) (f.2 * (scl (rts tl)).2)) (low_mul_bd tok.2.1.1 ssm (by decide) (Int.mul_ne_zero (by have := tok.2.1.2; omega) (by omega))).2) .nil))
        refine ⟨two_line, fun e2 ne2 => ?_⟩
        obtain ⟨se2, de2⟩ := dnewT (z := z) ne2 (.cons (.str (SX.S n) hn) (.cons de .nil))
        have hD2 := (se.trans se2) _ _ hD
        refine ⟨vs, hD2, vl, fun b o e => (by rw [upd_ne (ne_of_none e nD)]; exact (se.trans se2) _ _ (sG _ _ e)), vs ++ [.ref e2], upd_same, ?_⟩
        have er : (redL tl)[i]? = some (n, redF (scl (rts tl)) f) := by
          unfold redL
          rw [List.getElem?_map, he]
          rfl
        rw [List.take_add_one, er, List.map_append]
        refine DtAll.snoc (hvs.tups ((TT.of (se.trans se2)).trans (TT.upd hD2)) _ _ (noLs_tm _)) ?_
        exact Dt.tups (TT.upd hD2) _ _ rfl de2
    · obtain ⟨sG, vs, hD, hvs⟩ := hq
      have : (redL tl).length = tl.length := List.length_map ..
      rw [xl, ← this, List.take_length] at hvs
      refine ⟨D, vs, rfl, .inl ⟨SqL.of hD, fun l nl => ?_⟩⟩
      obtain ⟨sl, dl⟩ := dnewT (z := z) nl hvs
      have s5 := s6.trans (sG.trans sl)
      refine ⟨_, rfl, P, _, _, _, rfl, rfl, SqT.of (s5 _ _ hP), rfl, _, rfl, pb, ps, b, scl (rts tl), rfl, SqT.of (s5 _ _ hpb), SqT.of ((sG.trans sl) _ _ hps), hb.2, s2p, hb.1.mono (by decide), ssm, fun e ne => ?_⟩
      obtain ⟨se, de⟩ := dnewT (z := z) ne (.cons (.int (lowT (b.1 * (scl (rts tl)).1) (b.2 * (scl (rts tl)).2)) (low_mul_bd hb.1 ssm (by decide) (Int.mul_ne_zero (by have := hb.2; omega) (by omega))).1) (.cons (.int (lowD (b.1 * (scl (rts tl)).1) (b.2 * (scl (rts tl)).2)) (low_mul_bd hb.1 ssm (by decide) (Int.mul_ne_zero (by have := hb.2; omega) (by omega))).2) .nil))
      refine ⟨two_line, fun o no => ?_⟩
      obtain ⟨so, d0⟩ := dnewT (z := z) no (.cons (dl.same se) (.cons de .nil))
      exact q (.ref o) _ (s2.trans (s5.trans (se.trans so))) d0
end
/-! ### the law's own forms and ties -/
section
variable {P : Program} {w : World} {K : PySem.W.Frag} {mg : Str → Option Value} {base : Heap} {fa : Nat → Addr} {fd : Nat → FuncData}
theorem ok_form_value (T : Txt K mg fa fd) : FnOk P w K mg base CX0 5 (fa 47) (fd 47) ["_law_form_here", "_law_values"] (spFv K) := by
  refine T.F_form_value.ok sc_form_value (fun vs H Q E h => ?_) (fun cdv A outer s H vs Q E hr h => ?_)
  · obtain ⟨vp, d, z, f, ws, v, k, rfl, _⟩ := h
    rfl
  · obtain ⟨vp, d, z, f, ws, v, k, rfl, hf, ok, ⟨kvs, hk, hR⟩, hv, hk41, q⟩ := h
    refine ⟨_, (C8.pss_cut (ps_asg (pv 0) (pg_tup (by rfl) (pgs_cons (pg_name (i := 2) sc_form_value.nd rfl (.inl rfl)) (pgs_cons (pg_name (i := 3) sc_form_value.nd rfl (.inl rfl)) (pgs_cons (pg_name (i := 4) sc_form_value.nd rfl (.inl rfl)) pgs_nil)))))
      (pss_one (ps_ret (pe_ifExp (pt_cmpR op_eq (pv 3) pe_str (nomark _)) (pv 4) (pe_call (ok_plus T) (hr.mono (by decide)) (by rfl) T.g_plus T.F_plus.kp T.b_plus .nil pass0 (pa_cons (pe_call (ok_by T) (hr.mono (by decide)) (by rfl) T.g_by T.F_by.kp T.b_by .nil pass0 (pa_cons (pv 2) (pa_cons (pe_dget (Nat.lt_of_le_of_lt (Nat.add_le_add_left (by decide) _) hr.units) (pv 1) (pv 3) (fun _ _ => rfl)) pa_nil))) (pa_cons (pv 4) pa_nil))))))), ?_⟩
    obtain ⟨P0, pr, pn, rfl, gp, hpr, hpn⟩ := form_inv hf
    · skip
      refine ⟨fun σ H1 => H1 = H ∧ σ = [some (.ref P0), some (.ref d), some (.ref pr), some (vS f.name), some (.ref pn)], ⟨_, rfl, P0, _, rfl, .inl (.inl gp), rfl, _, _, rfl, _, _, rfl, _, _, rfl, rfl, rfl, rfl⟩, fun σ H1 hM => ?_⟩
      obtain ⟨rfl, rfl⟩ := hM
      refine ⟨_, rfl, rfl, _, rfl, ?_⟩

      by_cases hz : f.rate = (0, 1)
      · refine iteT' (decide_eq_true (by rw [ok.z.mp hz]; rfl)) ⟨_, rfl, q pn _ (Same.refl _) ?_⟩
        unfold fvl
        rw [if_pos hz]
        exact SqT.of hpn
      · refine iteF' (decide_eq_false (fun e => hz (ok.z.mpr (S_inj (b := []) (V.str.inj e))))) ?_
        have hx := ok.nm hz
        obtain ⟨p1, ep, fp⟩ := hR.2.2 _ hx
        have lv := hv _ hx
        have bv := lv.bn hk41
        have rb := (rt_dm _ ok.rt)
        have mb := (rb.2.mul bv rb.1.1.1 lv.1.1)
        refine ⟨_, rfl, _, rfl, _, rfl, d, _, rfl, by rw [← ep]; exact DGet.k (k := keyOf f.name) hk, pr, p1, f.rate, v f.name, rfl, SqT.of hpr, fp.1, rb.1.1.1, lv.1.1, bn2 rb.2 (by decide), bn2 bv (by decide), fun e ne => ?_⟩
        have se := same_upd (o := trF (mulL f.rate (v f.name))) ne
        refine ⟨_, rfl, e, pn, mulL f.rate (v f.name), f.num, rfl, SqT.of upd_same, SqT.of (se _ _ hpn), (nf_low (Int.mul_ne_zero (by have := rb.1.1.1; omega) (by have := lv.1.1; omega))).1, ok.nf.1, bn2 mb (by decide), bn2 (fm_bn ok) (by decide), fun o no => q o _ (se.trans (same_upd no)) ?_⟩
        unfold fvl
        rw [if_neg hz]
        exact SqT.of upd_same
def spTot9 (K : PySem.W.Frag) : Sp := fun vs H Q _ => ∃ (pt d z : Addr) (xs : List V) (tl : List It) (ws : List Nm) (v : Nm → FR) (k : Nat), vs = [.ref pt, .ref d] ∧ H pt = some (.tup xs) ∧ DtAll z H xs (tl.map tmP) ∧ tl.length ≤ 2 ∧ (∀ u ∈ tl, u.1 ∈ ws) ∧ (∀ u ∈ tl, Nf u.2 ∧ Bn 40 u.2) ∧ RD K H d ws v ∧ Vl k ws v ∧ k ≤ 41 ∧ ∀ p H', Same H H' → FrK K H' p (totF v (0, 1) tl) → Q (.ref p) H'
theorem ok_total (T : Txt K mg fa fd) : FnOk P w K mg base CX0 5 (fa 39) (fd 39) ["_law_terms_here", "_law_values"] (spTot9 K) := by
  refine T.F_total.ok sc_total (fun vs H Q E h => ?_) (fun cdv A outer s H vs Q E hr h => ?_)
  · obtain ⟨pt, d, z, xs, tl, ws, v, k, rfl, _⟩ := h
    rfl
  · obtain ⟨pt, d, z, xs, tl, ws, v, k, rfl, gt, hxs, ln, onm, onf, ⟨kvs, hk, hR⟩, hv, hk41, q⟩ := h
    refine ⟨_, (C8.pss_cut (ps_set (i := 2) sc_total.nd rfl (.inl rfl) (pe_tup (pa_cons pe_int (pa_cons pe_int pa_nil))))
      (C8.pss_cut (ps_for PassesOwn.never rfl (pi_tup (pv 0)) (pg_tup (by rfl) (pgs_cons (pg_name (i := 3) sc_total.nd rfl (.inl rfl)) (pgs_cons (pg_name (i := 4) sc_total.nd rfl (.inl rfl)) pgs_nil))) (pss_one (ps_set (i := 2) sc_total.nd rfl (.inl rfl) (pe_call (ok_plus T) (hr.mono (by decide)) (by rfl) T.g_plus T.F_plus.kp T.b_plus .nil pass0 (pa_cons (pv 2) (pa_cons (pe_call (ok_by T) (hr.mono (by decide)) (by rfl) T.g_by T.F_by.kp T.b_by .nil pass0 (pa_cons (pv 4) (pa_cons (pe_dget (Nat.lt_of_le_of_lt (Nat.add_le_add_left (by decide) _) hr.units) (pv 1) (pv 3) (fun _ _ => rfl)) pa_nil))) pa_nil))))))
      (pss_one (ps_ret (pv 2))))), ?_⟩
    have xl : xs.length = tl.length := by
      have := hxs.len
      rw [List.length_map] at this
      exact this
    refine ⟨fun σ H2 => Same H H2 ∧ ∃ q0, H2 q0 = some (trF (0, 1)) ∧ σ = [some (.ref pt), some (.ref d), some (.ref q0), none, none], ?_, fun σ H2 hM => ?_⟩
    · exact ⟨two_line, fun e ne => ⟨same_upd ne, e, upd_same, rfl⟩⟩
    obtain ⟨s2, q1, hq1, rfl⟩ := hM
    have to := tot_ok hv hk41 onm onf
    refine ⟨fun σ G => Same H G ∧ ∃ q0 y5 y6, FrK K G q0 (totF v (0, 1) tl) ∧ σ = [some (.ref pt), some (.ref d), some (.ref q0), y5, y6], ?_, fun σ G hM => ?_⟩
    · refine ⟨_, rfl, pt, rfl, ⟨_, SqT.of (s2 _ _ gt)⟩, for_tup (K := K) (a := pt) (xs := xs) (fun i σ G => Same H G ∧ ∃ q0 y5 y6, FrK K G q0 (totF v (0, 1) (tl.take i)) ∧ σ = [some (.ref pt), some (.ref d), some (.ref q0), y5, y6]) ⟨s2, _, _, _, SqT.of hq1, rfl⟩ (fun i σ G _ hq => SqT.of (hq.1 _ _ gt)) (fun i x σ G hx hq => ?_) (fun σ G hq => ?_)⟩
      · obtain ⟨sG, q0, y5, y6, hq0, rfl⟩ := hq
        obtain ⟨dd, hd, hdt⟩ := DtAll.at i hxs hx
        rw [List.getElem?_map] at hd
        obtain ⟨u, he, rfl⟩ := Option.map_eq_some_iff.mp hd
        obtain ⟨pp, pr, rfl, hpp, hpr⟩ := trm_inv9 hdt
        have hu := List.mem_of_getElem? he
        have hx2 := onm u hu
        obtain ⟨p1, ep, fp⟩ := hR.2.2 _ hx2
        have lv := hv _ hx2
        have bv := lv.bn hk41
        have ru := onf u hu
        have mb := ru.2.mul bv ru.1.1 lv.1.1
        have nm2 : Nf (mulL u.2 (v u.1)) := nf_low (Int.mul_ne_zero (by have := ru.1.1; omega) (by have := lv.1.1; omega))
        have il : i < 2 := by
          have := (List.getElem?_eq_some_iff.mp he).1
          omega
        refine ⟨pp, _, rfl, .inl (.inl (sG _ _ hpp)), rfl, _, _, rfl, _, _, rfl, rfl, _, rfl, _, rfl, _, rfl, _, rfl, d, _, rfl, by rw [← ep]; exact DGet.k (k := keyOf u.1) (sG _ _ hk), pr, p1, u.2, v u.1, rfl, SqT.of (sG _ _ hpr), SqT.sm sG _ _ fp.1, ru.1.1, lv.1.1, bn2 ru.2 (by decide), bn2 bv (by decide), fun e ne => ?_⟩
        have se := same_upd (o := trF (mulL u.2 (v u.1))) ne
        refine ⟨q0, e, totF v (0, 1) (tl.take i), mulL u.2 (v u.1), rfl, SqT.sm se _ _ hq0, SqT.of upd_same, (to i).1.1, nm2.1, bn2 (to i).2 (by omega), bn2 mb (by decide), fun o no => ?_⟩
        have so := se.trans (same_upd (o := trF (addL (totF v (0, 1) (tl.take i)) (mulL u.2 (v u.1)))) no)
        refine ⟨sG.trans so, o, _, _, ?_, rfl⟩
        rw [List.take_add_one, he, totF_app]
        exact SqT.of upd_same
      · obtain ⟨sG, q0, y5, y6, hq0, rfl⟩ := hq
        rw [xl, List.take_length] at hq0
        exact ⟨sG, q0, _, _, hq0, rfl⟩
    obtain ⟨sG, q0, y5, y6, hq0, rfl⟩ := hM
    exact ⟨_, rfl, q q0 G sG hq0⟩
theorem ok_keeps (T : Txt K mg fa fd) : FnOk P w K mg base CX0 6 (fa 40) (fd 40) ["_law_tie", "_law_values"] (spKept K) := by
  refine T.F_keeps.ok sc_keeps (fun vs H Q E h => ?_) (fun cdv A outer s H vs Q E hr h => ?_)
  · obtain ⟨tv, d, z, t, ws, v, k, rfl, _⟩ := h
    rfl
  · obtain ⟨tv, d, z, t, ws, v, k, rfl, ht, ok, hrd, hv, hk41, q⟩ := h
    refine ⟨_, (pss_one (ps_ret (pe_not (pe_call (ok_under T) (hr.mono (by decide)) (by rfl) T.g_under T.F_under.kp T.b_under .nil pass0 (pa_cons (pe_ix ix_tup (pv 0) pe_int (fun _ _ => rfl)) (pa_cons (pe_call (ok_total T) (hr.mono (by decide)) (by rfl) T.g_total T.F_total.kp T.b_total .nil pass0 (pa_cons (pe_ix ix_tup (pv 0) pe_int (fun _ _ => rfl)) (pa_cons (pv 1) pa_nil))) pa_nil)))))), ?_⟩
    obtain ⟨P0, pt, pb, xs, rfl, gp, gt, hxs, hpb⟩ := tie_inv9 ht
    have tl2 := tot_ok hv hk41 ok.nm ok.nf t.1.length
    rw [List.take_length] at tl2
    have ln := ok.ln
    refine ⟨_, rfl, P0, _, _, _, rfl, rfl, SqT.of gp, rfl, _, rfl, P0, _, _, _, rfl, rfl, SqT.of gp, rfl, _, rfl, pt, d, z, xs, t.1, ws, v, k, rfl, gt, hxs, ln, ok.nm, ok.nf, hrd, hv, hk41, fun q0 G sG hq0 => ?_⟩
    exact ⟨pb, q0, t.2, totF v (0, 1) t.1, rfl, SqT.of (sG _ _ hpb), hq0, bn2 ok.bf.2 (by decide), bn2 tl2.2 (by omega), _, rfl, q _ sG⟩
end
/-! ### the law's walk -/
theorem lay_fr : ∀ l : List FR, PyData.canLayAll0 (l.map frP) = true ∧ PyData.depthAll (l.map frP) ≤ 1
  | [] => ⟨rfl, Nat.zero_le _⟩
  | x :: l => by
    obtain ⟨h1, h2⟩ := lay_fr l
    constructor
    · show (PyData.canLay0 (frP x) && PyData.canLayAll0 (l.map frP)) = true
      rw [h1]
      rfl
    · show max (PyData.depth (frP x)) (PyData.depthAll (l.map frP)) ≤ 1
      have : PyData.depth (frP x) ≤ 1 := by
        show max (0 : Nat) (max 0 0) + 1 ≤ 1
        decide
      omega
theorem shaped_fr (l : List FR) : SeqAt.shaped (.list (l.map frP)) = true := by
  obtain ⟨h1, h2⟩ := lay_fr l
  unfold SeqAt.shaped
  rw [PyData.canLay0.eq_5, PyData.depth.eq_1, h1, Bool.true_and, decide_eq_true_eq]
  omega
def CLp (H : Hp) (cl : Addr) (cs : List FR) : Prop := ∃ us : List V, H cl = some (.lst us) ∧ Paired (fun u f => ∃ p, u = V.ref p ∧ H p = some (trF f)) us cs
theorem dcs {K : PySem.W.Frag} {H : Hp} {us : List V} {cs : List FR} (h : Paired (fun u f => ∃ p, u = V.ref p ∧ H p = some (trF f)) us cs) : DpAll K H us (cs.map frP) := by
  induction h with
  | nil => exact .nil
  | cons h _ ih =>
    obtain ⟨p, rfl, hp⟩ := h
    exact .cons (.tup (SqT.of hp) (.cons (.int _) (.cons (.int _) .nil))) ih
theorem CLp.but {H H' : Hp} {cl b : Addr} {cs : List FR} (h : CLp H cl cs) (s : ∀ p o, H p = some o → p ≠ b → H' p = some o) (hb : ∀ xs, H b ≠ some (.tup xs)) (nb : cl ≠ b) : CLp H' cl cs := by
  obtain ⟨us, h1, h2⟩ := h
  refine ⟨us, s _ _ h1 nb, pair_imp (fun _ _ ⟨p, e, k⟩ => ⟨p, e, s _ _ k fun z => ?_⟩) h2⟩
  rw [z] at k
  exact hb _ k
theorem CLp.same {H H' : Hp} {cl : Addr} {cs : List FR} (h : CLp H cl cs) (s : Same H H') : CLp H' cl cs :=
  let ⟨us, h1, h2⟩ := h
  ⟨us, s _ _ h1, pair_imp (fun _ _ ⟨p, e, k⟩ => ⟨p, e, s _ _ k⟩) h2⟩
structure St9 (K : PySem.W.Frag) (d cl : Addr) (ws : List Nm) (k : Nat) (H : Hp) (s : Sta) : Prop where
  rd : RD K H d ws s.1
  cl : CLp H cl s.2
  lv : Vl k ws s.1
  ch : ∀ x ∈ s.2, x ∈ CH
  ln : s.2.length ≤ 100
theorem go_st9 {K : PySem.W.Frag} {d d' cl : Addr} {ws : List Nm} {k : Nat} {H H' : Hp} {s t : Sta} {p : Pg} (ok : PgOk ws p) (S : St9 K d cl ws k H s) (h : go p s = some t) (h1 : RD K H' d' ws t.1) (h2 : CLp H' cl t.2) : St9 K d' cl ws (k + cnt p) H' t :=
  let l := go_lv p ok k s t h S.lv S.ch
  ⟨h1, h2, l.1, l.2, Nat.le_trans (go_ln p s t h) S.ln⟩
theorem pick_ok {K : PySem.W.Frag} {a b : Option V} {rest : L2.St} {H : Hp} {cl : Addr} {cs : List FR} {Q : VK} (hc : CLp H cl cs) (h : ∀ p H', But1 cl H H' → CLp H' cl cs.tail → H' p = some (trF (nxF cs)) → Q (.ref p) H') :
    tIf (tTest (tOp (rNeD K) (tVar 2) (tLst tNil))) (tBM K "list" rPopAt (tVar 2) (tCons (tC (V.int 0)) tNil)) (tTup (tCons (tC (V.int 0)) (tCons (tC (V.int 1)) tNil))) (a :: b :: some (.ref cl) :: rest) H Q := by
  obtain ⟨us, hus, hps⟩ := hc
  refine ⟨_, rfl, Nat.zero_le _, fun e ne => ?_⟩
  have se := same_upd (o := .lst []) ne
  have hus2 := se _ _ hus
  have nec : cl ≠ e := fun z => by
    rw [z, ne] at hus
    cases hus
  refine ⟨_, _, .lst (SqL.of hus2) (dcs (pair_imp (fun _ _ ⟨p, e, k⟩ => ⟨p, e, se _ _ k⟩) hps)), .lst (SqL.of upd_same) .nil, shaped_fr cs, by decide +kernel, _, rfl, ?_⟩
  cases hps with
  | nil =>
    refine iteF' rfl ⟨two_line, fun o no => ?_⟩
    have so := same_upd (o := trF (0, 1)) no
    exact h o _ (fun p x n k => so _ _ (se _ _ k)) ⟨[], so _ _ hus2, .nil⟩ upd_same
  | @cons u f us' cs' h1 t =>
    refine iteT' rfl ?_
    obtain ⟨p1, rfl, hf⟩ := h1
    have kp : ∀ p xs, H p = some (.tup xs) → upd (upd H e (.lst [])) cl (.lst us') p = some (.tup xs) := fun p xs k => by
      rw [upd_ne (fun z => by rw [z, hus] at k; cases k)]
      exact se _ _ k
    refine ⟨_, rfl, .inl ⟨rfl, _, SqL.of hus2⟩, cl, .ref p1 :: us', 0, 0, .ref p1, rfl, rfl, hus2, by decide, by decide, by unfold seqIndex?; simp, rfl, ?_⟩
    refine h p1 _ (fun p x n k => ?_) ⟨us', upd_same, pair_imp (fun _ _ ⟨p, e, k⟩ => ⟨p, e, kp _ _ k⟩) t⟩ (kp _ _ hf)
    rw [upd_ne n]
    exact se _ _ k
theorem b1_none {H G : Hp} {cl D : Addr} {us : List V} (b : But1 cl H G) (h : G cl = some (.lst us)) (n : G D = none) : H D = none := by
  cases e : H D with
  | none => rfl
  | some o =>
    rw [b D o (fun z => by rw [z, h] at n; cases n) e] at n
    cases n
theorem b1_trans {H G G' : Hp} {cl : Addr} (h : But1 cl H G) (k : But1 cl G G') : But1 cl H G' := fun a o n e => k _ _ n (h _ _ n e)
theorem itr_none {α : Type} {f : α → Option α} {s : α} {i : Nat} (h : itr f i s = none) : ∀ m, i ≤ m → itr f m s = none := by
  intro m hm
  induction hm with
  | refl => exact h
  | step _ ih =>
    rw [itr_snoc, ih]
    rfl
def WalkPost (K : PySem.W.Frag) (cl : Addr) (ws : List Nm) (H : Hp) (o : Option Sta) (Q : VK) : Prop :=
  (o = none → ∀ H', But1 cl H H' → Q .non H') ∧ ∀ t, o = some t → ∀ d H', But1 cl H H' → H d = none → RD K H' d ws t.1 → CLp H' cl t.2 → Q (.ref d) H'
def spWk (K : PySem.W.Frag) (n : Nat) : Sp := fun vs H Q _ => ∃ (vp : V) (d cl z : Addr) (p : Pg) (ws : List Nm) (s : Sta) (k : Nat), vs = [vp, .ref d, .ref cl] ∧ Dt z H vp (.tuple (pgL p)) ∧ PgOk ws p ∧ dep p ≤ n ∧ St9 K d cl ws k H s ∧ k + cnt p ≤ 40 ∧ ws.length ≤ 100 ∧ WalkPost K cl ws H (go p s) Q
def spW (K : PySem.W.Frag) : Nat → Sp
  | 0 => fun _ _ _ _ => False
  | n + 1 => spWk K n
section
variable {P : Program} {w : World} {K : PySem.W.Frag} {mg : Str → Option Value} {base : Heap} {fa : Nat → Addr} {fd : Nat → FuncData}
theorem walk_step (T : Txt K mg fa fd) (n : Nat) (G : FnOk P w K mg base CX0 (n + 7) (fa 48) (fd 48) ["_law_program_here", "_law_values", "_law_left"] (spW K n)) : FnOk P w K mg base CX0 (n + 8) (fa 48) (fd 48) ["_law_program_here", "_law_values", "_law_left"] (spW K (n + 1)) := by
  refine T.F_walk.ok sc_walk (fun vs H Q E h => ?_) (fun cdv A outer s0 H vs Q E hr h => ?_)
  · obtain ⟨vp, d, cl, z, p, ws, s, k, rfl, _⟩ := h
    rfl
  · obtain ⟨vp, d, cl, z, p, ws, s, k, rfl, hp, ok, hdep, S0, hk, hwl, q⟩ := h
    refine ⟨_, (C8.pss_cut (ps_set (i := 3) sc_walk.nd rfl (.inr rfl) (pe_callTy call_dictD (by rfl) T.m_dict (by decide +kernel) (pa_cons (pv 1) pa_nil)))
      (C8.pss_cut (ps_for PassesOwn.never rfl (pi_tup (pv 0)) (pg_name (i := 4) sc_walk.nd rfl (.inl rfl)) (pss_one (ps_if (pt_cmpR op_eq (pe_ix ix_tup (pv 4) pe_int (fun _ _ => rfl)) pe_str (nomark _)) (C8.pss_cut (ps_par (i := 5) (j := 6) (by rfl) sc_walk.nd rfl rfl (by decide) rfl rfl (pa_cons (pe_call (ok_form_value T) (hr.mono (by omega)) (by rfl) T.g_form_value T.F_form_value.kp T.b_form_value .nil pass0 (pa_cons (pe_ix ix_tup (pv 4) pe_int (fun _ _ => rfl)) (pa_cons (pv 3) pa_nil))) (pa_cons (pe_call (ok_form_value T) (hr.mono (by omega)) (by rfl) T.g_form_value T.F_form_value.kp T.b_form_value .nil pass0 (pa_cons (pe_ix ix_tup (pv 4) pe_int (fun _ _ => rfl)) (pa_cons (pv 3) pa_nil))) pa_nil)) (by rfl))
      (C8.pss_cut (ps_if (pt_val (pe_call (ok_under T) (hr.mono (by omega)) (by rfl) T.g_under T.F_under.kp T.b_under .nil pass0 (pa_cons (pv 6) (pa_cons (pv 5) pa_nil)))) (pss_one (ps_ret pe_non)) pss_nil)
      (C8.pss_cut (ps_set (i := 7) sc_walk.nd rfl (.inl rfl) (pe_ifExp (pt_cmpR (op_neDK (K := K) rfl hr.units) (pv 2) (pe_lst pa_nil) (nomark _)) (pe_bm PySem.F.plainAttrs_list PySem.F.slot_list_pop PySem.F.type_list_pop mt_popAt (pv 2) (pa_cons pe_int pa_nil)) (pe_tup (pa_cons pe_int (pa_cons pe_int pa_nil)))))
      (C8.pss_cut (ps_set (i := 8) sc_walk.nd rfl (.inl rfl) (pe_ifExp (pt_cmpR op_eq (pe_ix ix_tup (pv 7) pe_int (fun _ _ => rfl)) pe_int (nomark _)) (pe_tup (pa_cons pe_int (pa_cons pe_int pa_nil))) (pe_call (ok_low T) (hr.mono (by omega)) (by rfl) T.g_low T.F_low.kp T.b_low .nil pass0 (pa_cons (pe_ix ix_tup (pv 7) pe_int (fun _ _ => rfl)) (pa_cons (pe_op op_add (pe_ix ix_tup (pv 7) pe_int (fun _ _ => rfl)) (pe_callB call_abs (by rfl) T.m_abs PyProof.Rows.boot_abs (pa_cons (pe_ix ix_tup (pv 7) pe_int (fun _ _ => rfl)) pa_nil))) pa_nil)))))
      (pss_one (ps_dput (Nat.lt_of_le_of_lt (Nat.add_le_add_left (by decide) _) hr.units) (pv 3) (pe_ix ix_tup (pv 4) pe_int (fun _ _ => rfl)) (pe_call (ok_plus T) (hr.mono (by omega)) (by rfl) T.g_plus T.F_plus.kp T.b_plus .nil pass0 (pa_cons (pv 5) (pa_cons (pe_call (ok_by T) (hr.mono (by omega)) (by rfl) T.g_by T.F_by.kp T.b_by .nil pass0 (pa_cons (pv 8) (pa_cons (pe_call (ok_plus T) (hr.mono (by omega)) (by rfl) T.g_plus T.F_plus.kp T.b_plus .nil pass0 (pa_cons (pv 6) (pa_cons (pe_call (ok_minus T) (hr.mono (by omega)) (by rfl) T.g_minus T.F_minus.kp T.b_minus .nil pass0 (pa_cons (pv 5) pa_nil)) pa_nil))) pa_nil))) pa_nil))) (by rfl))))))) (pss_one (ps_if (pt_cmpR op_eq (pe_ix ix_tup (pv 4) pe_int (fun _ _ => rfl)) pe_str (nomark _)) (pss_one (ps_dput (Nat.lt_of_le_of_lt (Nat.add_le_add_left (by decide) _) hr.units) (pv 3) (pe_ix ix_tup (pv 4) pe_int (fun _ _ => rfl)) (pe_ifExp (pt_cmpR (op_neDK (K := K) rfl hr.units) (pv 2) (pe_lst pa_nil) (nomark _)) (pe_bm PySem.F.plainAttrs_list PySem.F.slot_list_pop PySem.F.type_list_pop mt_popAt (pv 2) (pa_cons pe_int pa_nil)) (pe_tup (pa_cons pe_int (pa_cons pe_int pa_nil)))) (by rfl))) (pss_one (ps_if (pt_cmpR op_eq (pe_ix ix_tup (pv 4) pe_int (fun _ _ => rfl)) pe_str (nomark _)) (pss_one (ps_if (pt_not (pt_val (pe_callB (cr_all rfl) (by rfl) T.m_all PyProof.Rows.boot_all (pa_cons (pe_lc (own := [("_law_tie", 11)]) (g := gName 11) (tt := tYes) rfl sc_walk.nd (pi_tup (pe_ix ix_tup (pv 4) pe_int (fun _ _ => rfl))) (blkOk_by (own := [("_law_tie", 11)]) (N := ["_law_program_here", "_law_values", "_law_left", "_law_here", "_law_row", "_law_low_here", "_law_high", "_law_size", "_law_share", "_law_pick", "_law_turn", "_law_tie"]) (sc := defScope s_walk) (by decide +kernel)) (fun _ _ _ _ _ => pg_name (i := 11) sc_walk.nd rfl (Or.inl rfl)) (fun _ _ _ _ _ => pts_nil) (fun _ _ _ _ _ => (pe_call (ok_keeps T) (hr.mono (by omega)) (by rfl) T.g_keeps T.F_keeps.kp T.b_keeps .nil pass0 (pa_cons (pv 11) (pa_cons (pv 3) pa_nil))))) pa_nil)))) (pss_one (ps_ret pe_non)) pss_nil)) (pss_one (ps_if (pt_cmpR op_eq (pe_ix ix_tup (pv 4) pe_int (fun _ _ => rfl)) pe_str (nomark _)) (C8.pss_cut (ps_set (i := 9) sc_walk.nd rfl (.inl rfl) (pe_ifExp (pt_cmpR (op_neDK (K := K) rfl hr.units) (pv 2) (pe_lst pa_nil) (nomark _)) (pe_bm PySem.F.plainAttrs_list PySem.F.slot_list_pop PySem.F.type_list_pop mt_popAt (pv 2) (pa_cons pe_int pa_nil)) (pe_tup (pa_cons pe_int (pa_cons pe_int pa_nil)))))
      (C8.pss_cut (ps_set (i := 3) sc_walk.nd rfl (.inr rfl) (pe_call G (hr.mono (by omega)) (by rfl) T.g_walk T.F_walk.kp T.b_walk .nil pass0 (pa_cons (pe_ifExp (pt_cmpR op_eq (pe_ix ix_tup (pv 9) pe_int (fun _ _ => rfl)) pe_int (nomark _)) (pe_ix ix_tup (pv 4) pe_int (fun _ _ => rfl)) (pe_ix ix_tup (pv 4) pe_int (fun _ _ => rfl))) (pa_cons (pv 3) (pa_cons (pv 2) pa_nil)))))
      (pss_one (ps_if (pt_cmpR op_isN (pv 3) pe_non (nomark _)) (pss_one (ps_ret pe_non)) pss_nil)))) (pss_one (ps_for PassesOwn.never rfl (pi_range1 (by rfl) T.m_range (pa_cons (pe_ix ix_tup (pv 4) pe_int (fun _ _ => rfl)) pa_nil)) (pg_name (i := 10) sc_walk.nd rfl (.inl rfl)) (C8.pss_cut (ps_set (i := 3) sc_walk.nd rfl (.inr rfl) (pe_call G (hr.mono (by omega)) (by rfl) T.g_walk T.F_walk.kp T.b_walk .nil pass0 (pa_cons (pe_ix ix_tup (pv 4) pe_int (fun _ _ => rfl)) (pa_cons (pv 3) (pa_cons (pv 2) pa_nil)))))
      (pss_one (ps_if (pt_cmpR op_isN (pv 3) pe_non (nomark _)) (pss_one (ps_ret pe_non)) pss_nil))))))))))))))
      (pss_one (ps_ret (pv 3))))), ?_⟩
    obtain ⟨P0, xs, rfl, gt, hts⟩ : ∃ P0 xs, vp = .ref P0 ∧ H P0 = some (.tup xs) ∧ DtAll z H xs (pgL p) := by
      cases hp with
      | tup g hs => exact ⟨_, _, rfl, g, hs⟩
    obtain ⟨kvs0, hkd0, hR0⟩ := S0.rd
    obtain ⟨us0, hus0, hps0⟩ := S0.cl
    refine ⟨fun σ G => ∃ D, H D = none ∧ G = upd H D (.dK kvs0) ∧ σ = [some (.ref P0), some (.ref d), some (.ref cl), some (.ref D), none, none, none, none, none, none, none, none], ?_, fun σ G hM => ?_⟩
    · exact ⟨_, rfl, d, kvs0, rfl, .inl hkd0, fun D nD => ⟨D, nD, rfl, rfl⟩⟩
    obtain ⟨D0, nD0, rfl, rfl⟩ := hM
    have sD : Same H (upd H D0 (.dK kvs0)) := same_upd nD0
    have TTo : ∀ G, But1 cl H G → TT H G := fun G h p xs e => h p _ (fun z => by rw [z, hus0] at e; cases e) e
    refine ⟨fun σ G1 => But1 cl H G1 ∧ ∃ (t : Sta) (D : Addr) (y4 y5 y6 y7 y8 y9 y10 y11 : Option V), go p s = some t ∧ RD K G1 D ws t.1 ∧ CLp G1 cl t.2 ∧ H D = none ∧ σ = [some (.ref P0), some (.ref d), some (.ref cl), some (.ref D), y4, y5, y6, y7, y8, y9, y10, y11], ?_, fun σ G1 hM => ?_⟩
    · refine ⟨_, rfl, P0, rfl, ⟨_, SqT.of (sD _ _ gt)⟩, for_tup (K := K) (a := P0) (xs := xs) (fun i σ G => But1 cl H G ∧ ∃ (pi : Pg) (si : Sta) (ki : Nat) (D : Addr) (y4 y5 y6 y7 y8 y9 y10 y11 : Option V), pgL pi = (pgL p).drop i ∧ PgOk ws pi ∧ dep pi ≤ n ∧ St9 K D cl ws ki G si ∧ ki + cnt pi ≤ 40 ∧ H D = none ∧ go p s = go pi si ∧ σ = [some (.ref P0), some (.ref d), some (.ref cl), some (.ref D), y4, y5, y6, y7, y8, y9, y10, y11]) ⟨fun a o _ e => sD _ _ e, p, s, k, D0, _, _, _, _, _, _, _, _, rfl, ok, hdep, ⟨⟨kvs0, upd_same, hR0.mono (Tr.sm sD)⟩, S0.cl.same sD, S0.lv, S0.ch, S0.ln⟩, hk, nD0, rfl, rfl⟩ (fun i σ G1 _ hq => SqT.of (TTo _ hq.1 _ _ gt)) (fun i x σ G1 hx hq => ?_) (fun σ G1 hq => ?_)⟩
      · obtain ⟨bG, pi, si, ki, D, y4, y5, y6, y7, y8, y9, y10, y11, hpi, oki, di, Si, ci, nD, gi, rfl⟩ := hq
        obtain ⟨dd, hd, hdt⟩ := DtAll.at i hts hx
        have hc : pgL pi = dd :: (pgL p).drop (i + 1) := by
          obtain ⟨hl, he⟩ := List.getElem?_eq_some_iff.mp hd
          rw [hpi, List.drop_eq_getElem_cons hl, he]
        have co := cnt_one pi
        have dn := dep_one pi
        have nl : noL dd = true := by
          have := noLs_pg pi
          rw [hc] at this
          have this : (noL dd && noLs ((pgL p).drop (i + 1))) = true := this
          exact (Bool.and_eq_true_iff.mp this).1
        have hv := Dt.tups (z' := z) (TTo _ bG) _ _ nl hdt
        have g1 := go_one pi si
        have non : go (one pi) si = none → ∀ G', But1 cl H G' → Q .non G' := fun e G' b => by
          rw [e] at g1
          exact q.1 (gi.trans g1) G' b
        have fin : ∀ t, go (one pi) si = some t → ∀ G' D' (y4 y5 y6 y7 y8 y9 y10 y11 : Option V), But1 cl H G' → H D' = none → RD K G' D' ws t.1 → CLp G' cl t.2 → (fun (i : Nat) σ G => But1 cl H G ∧ ∃ (pi : Pg) (si : Sta) (ki : Nat) (D : Addr) (y4 y5 y6 y7 y8 y9 y10 y11 : Option V), pgL pi = (pgL p).drop i ∧ PgOk ws pi ∧ dep pi ≤ n ∧ St9 K D cl ws ki G si ∧ ki + cnt pi ≤ 40 ∧ H D = none ∧ go p s = go pi si ∧ σ = [some (.ref P0), some (.ref d), some (.ref cl), some (.ref D), y4, y5, y6, y7, y8, y9, y10, y11]) (i + 1) [some (.ref P0), some (.ref d), some (.ref cl), some (.ref D'), y4, y5, y6, y7, y8, y9, y10, y11] G' := fun t e G' D' y4 y5 y6 y7 y8 y9 y10 y11 b n r c => by
          rw [e] at g1
          exact ⟨b, rst pi, t, ki + cnt (one pi), D', y4, y5, y6, y7, y8, y9, y10, y11, pgL_one hc, (ok_one oki).2, by omega, go_st9 (ok_one oki).1 Si e r c, by omega, n, gi.trans g1, rfl⟩
        obtain ⟨kvs, hkd, hR⟩ := Si.rd
        obtain ⟨us, hus, hps⟩ := Si.cl
        have dnc : D ≠ cl := fun e => by
          rw [e, hus] at hkd
          cases hkd
        cases pi with
        | nil => cases hc
        | set x f g r =>
          obtain ⟨rfl, _⟩ := List.cons.inj hc
          obtain ⟨sp, vf, vg, rfl, hsp, hf, hg⟩ := set_inv hv
          refine ⟨_, rfl, sp, _, _, _, rfl, rfl, SqT.of hsp, rfl, rfl, _, rfl, iteT' (decide_eq_true rfl) ?_⟩
          have bf := fv_bn oki.1.2.1 Si.lv (by omega)
          have bg := fv_bn oki.1.2.2 Si.lv (by omega)
          have nff := (fvl_dm oki.1.2.1 Si.lv).1
          have nfg := (fvl_dm oki.1.2.2 Si.lv).1
          have eg : go (one (.set x f g r)) si = setS x f g si := bind_go_nil _
          rw [eg] at non fin
          have nc := nx_ch Si.ch
          -- the two forms
          refine ⟨fun σ G2 => Same G1 G2 ∧ ∃ pf pg, FrK K G2 pf (fvl f si.1) ∧ FrK K G2 pg (fvl g si.1) ∧ σ = [some (.ref P0), some (.ref d), some (.ref cl), some (.ref D), some (.ref sp), some (.ref pf), some (.ref pg), y7, y8, y9, y10, y11], ?_, fun σ G2 hM => ?_⟩
          · refine ⟨_, rfl, sp, _, _, _, rfl, rfl, SqT.of hsp, rfl, _, rfl, vf, D, z, f, ws, si.1, ki, rfl, hf, oki.1.2.1, Si.rd, Si.lv, by omega, fun pf G2 s1 hpf => ?_⟩
            refine ⟨_, rfl, sp, _, _, _, rfl, rfl, SqT.of (s1 _ _ hsp), rfl, _, rfl, vg, D, z, g, ws, si.1, ki, rfl, hg.same s1, oki.1.2.2, Si.rd.same s1, Si.lv, by omega, fun pg G3 s2 hpg => ?_⟩
            exact ⟨_, _, rfl, s1.trans s2, pf, pg, SqT.sm s2 _ _ hpf, hpg, rfl⟩
          obtain ⟨s1, pf, pg, hpf, hpg, rfl⟩ := hM
          -- whether there is a value
          refine ⟨fun σ G3 => G2 = G3 ∧ ltQ (fvl g si.1) (fvl f si.1) = false ∧ σ = [some (.ref P0), some (.ref d), some (.ref cl), some (.ref D), some (.ref sp), some (.ref pf), some (.ref pg), y7, y8, y9, y10, y11], ?_, fun σ G3 hM => ?_⟩
          · refine ⟨_, rfl, _, rfl, pg, pf, fvl g si.1, fvl f si.1, rfl, hpg, hpf, bn2 bg (by decide), bn2 bf (by decide), _, rfl, ?_⟩
            show ite (ltQ (fvl g si.1) (fvl f si.1) = true) _ _
            cases e : ltQ (fvl g si.1) (fvl f si.1) with
            | false => exact iteF ⟨rfl, rfl, rfl⟩
            | true =>
              refine iteT ?_
              have e2 : setS x f g si = none := by
                unfold setS
                rw [if_pos e]
              exact non e2 G2 (fun a o n e => s1 _ _ (bG a o n e))
          obtain ⟨rfl, hlt, rfl⟩ := hM
          have hkd1 := s1 _ _ hkd
          have hus1 := s1 _ _ hus
          -- the size
          refine ⟨fun σ G4 => But1 cl G2 G4 ∧ CLp G4 cl si.2.tail ∧ ∃ ps, G4 ps = some (trF (nxF si.2)) ∧ σ = [some (.ref P0), some (.ref d), some (.ref cl), some (.ref D), some (.ref sp), some (.ref pf), some (.ref pg), some (.ref ps), y8, y9, y10, y11], ?_, fun σ G4 hM => ?_⟩
          · exact pick_ok (Si.cl.same s1) fun p0 G4 b h1 h2 => ⟨b, h1, p0, h2, rfl⟩
          obtain ⟨hb4, hcl4, ps, hps4, rfl⟩ := hM
          have kp4 : ∀ p xs, SqT K G2 p xs → SqT K G4 p xs := fun p xs h => (hb4.tr (K := K) hus1).1 _ _ h
          have hkd4 := hb4 _ _ dnc hkd1
          have hR4 := (hR.mono (Tr.sm s1)).mono (hb4.tr (K := K) hus1)
          -- the share
          refine ⟨fun σ G5 => Same G4 G5 ∧ ∃ ph, G5 ph = some (trF (shr (nxF si.2))) ∧ σ = [some (.ref P0), some (.ref d), some (.ref cl), some (.ref D), some (.ref sp), some (.ref pf), some (.ref pg), some (.ref ps), some (.ref ph), y9, y10, y11], ?_, fun σ G5 hM => ?_⟩
          · have cd := ch_dm _ nc
            refine ⟨_, rfl, ps, _, _, _, rfl, rfl, SqT.of hps4, rfl, rfl, _, rfl, ite2 (fun e => ?_) (fun e => ?_)⟩
            · have e := V.int.inj (of_decide_eq_true e)
              refine ⟨two_line, fun o no => ⟨same_upd no, o, ?_, rfl⟩⟩
              unfold shr
              rw [if_pos e]
              exact upd_same
            · have e : (nxF si.2).1 ≠ 0 := fun z => e (decide_eq_true (by rw [z]))
              have ab : ∀ z : Int, (if z < 0 then -z else z) = (z.natAbs : Int) := fun z => by split <;> omega
              refine ⟨_, rfl, ps, _, _, _, rfl, rfl, SqT.of hps4, rfl, _, rfl, ps, _, _, _, rfl, rfl, SqT.of hps4, rfl, _, rfl, ps, _, _, _, rfl, rfl, SqT.of hps4, rfl, _, rfl, _, _, rfl, rfl, (nxF si.2).2, (nxF si.2).2 + ((nxF si.2).1.natAbs : Nat), by rw [ab]; rfl, by have := cd.2.2.2.2; omega, ?_, fun o no => ⟨same_upd no, o, ?_, rfl⟩⟩
              · have b := cd.2.2.1
                have b1 : (nxF si.2).1.natAbs < 1024 := b.1
                have b2 : (nxF si.2).2.natAbs < 1024 := b.2
                exact log2_mono (b := 8000) (by omega) (by decide +kernel)
              · unfold shr
                rw [if_neg e]
                exact upd_same
          obtain ⟨s5, ph, hph, rfl⟩ := hM
          have sd := set_dm oki.1.2.1 oki.1.2.2 Si.lv nc
          have cd := ch_dm _ nc
          have b1 : Bn 480 (subL (fvl g si.1) (fvl f si.1)) := Dm.bn (k := ki) (by omega) (by decide) sd.1 (by have := ML_ge ki; omega) (by omega) (by decide)
          have b2 : Bn 480 (mulL (shr (nxF si.2)) (subL (fvl g si.1) (fvl f si.1))) := by
            have h := sd.2.1
            rw [← Int.mul_assoc] at h
            exact Dm.bn (k := ki) (by omega) (by decide) h (by have := ML_ge ki; omega) (by omega) (by decide)
          rw [sub_neg] at sd b1 b2
          have bn : Bn 480 (negF (fvl f si.1)) := ⟨by show (-(fvl f si.1).1).natAbs < _; rw [Int.natAbs_neg]; exact bf.1, bf.2⟩
          have e : setS x f g si = some (setV si.1 x (addL (fvl f si.1) (mulL (shr (nxF si.2)) (addL (fvl g si.1) (negF (fvl f si.1))))), si.2.tail) := by
            unfold setS
            rw [if_neg (by rw [hlt]; decide), sub_neg]
          have hpf5 := SqT.sm s5 _ _ (kp4 _ _ hpf)
          have hpg5 := SqT.sm s5 _ _ (kp4 _ _ hpg)
          have hsp5 : G5 sp = some (.tup [.str (Str.ofString "set"), vS x, vf, vg]) := s5 _ _ ((hb4.tr (K := K) hus1).2 _ _ (s1 _ _ hsp))
          refine ⟨_, rfl, _, rfl, _, rfl, _, rfl, pf, fvl f si.1, rfl, hpf5, fun m nm => ?_⟩
          have t0' := same_upd (o := trF (negF (fvl f si.1))) nm
          refine ⟨pg, m, fvl g si.1, negF (fvl f si.1), rfl, SqT.sm t0' _ _ hpg5, SqT.of upd_same, nfg.1, nff.1, bn2 bg (by decide), bn2 bn (by decide), fun e1 n1 => ?_⟩
          have t1' := t0'.trans (same_upd (o := trF (addL (fvl g si.1) (negF (fvl f si.1)))) n1)
          refine ⟨ph, e1, shr (nxF si.2), addL (fvl g si.1) (negF (fvl f si.1)), rfl, SqT.of (t1' _ _ hph), SqT.of upd_same, (shr_dm nc).1.1, sd.1.1.1, bn2 cd.2.2.2.1 (by decide), bn2 b1 (by decide), fun e2 n2 => ?_⟩
          have t2' := t1'.trans (same_upd (o := trF (mulL (shr (nxF si.2)) (addL (fvl g si.1) (negF (fvl f si.1))))) n2)
          refine ⟨pf, e2, fvl f si.1, mulL (shr (nxF si.2)) (addL (fvl g si.1) (negF (fvl f si.1))), rfl, SqT.sm t2' _ _ hpf5, SqT.of upd_same, nff.1, sd.2.1.1.1, bn2 bf (by decide), bn2 b2 (by decide), fun e3 n3 => ?_⟩
          have t3' := s5.trans (t2'.trans (same_upd (o := trF (addL (fvl f si.1) (mulL (shr (nxF si.2)) (addL (fvl g si.1) (negF (fvl f si.1)))))) n3))
          have t23 := t2'.trans (same_upd (o := trF (addL (fvl f si.1) (mulL (shr (nxF si.2)) (addL (fvl g si.1) (negF (fvl f si.1)))))) n3)
          have hkd5 := t3' _ _ hkd4
          have hkl : kvs.length < sizeLine := by
            rw [hR.len]
            exact small1000 (by omega)
          refine ⟨_, rfl, _, rfl, sp, _, _, _, rfl, rfl, SqT.of (t23 _ _ hsp5), rfl, D, _, rfl, DPut.k (k := keyOf x) hkd5 hkl, fin _ e _ D _ _ _ _ _ _ _ _ (fun a o na k => ?_) nD ⟨_, upd_same, ?_⟩ ?_⟩
          · rw [upd_ne (ne_of_none k nD)]
            exact t3' _ _ (hb4 _ _ na (s1 _ _ (bG _ _ na k)))
          · exact (((hR4.mono (Tr.sm t3')).putV (f := addL (fvl f si.1) (mulL (shr (nxF si.2)) (addL (fvl g si.1) (negF (fvl f si.1))))) ⟨SqT.of upd_same, .inr upd_same⟩ oki.1.1).mono (Tr.updD hkd5))
          · exact (hcl4.same t3').but (b := D) (fun p o k n => by rw [upd_ne n]; exact k) (fun xs k => by rw [hkd5] at k; cases k) dnc.symm
        | any x r =>
          obtain ⟨rfl, _⟩ := List.cons.inj hc
          obtain ⟨sp, rfl, hsp⟩ := any_inv hv
          refine ⟨_, rfl, sp, _, _, _, rfl, rfl, SqT.of hsp, rfl, rfl, _, rfl, iteF' (decide_eq_false fun e => absurd (V.str.inj e) (by decide +kernel)) ?_⟩
          refine ⟨_, rfl, sp, _, _, _, rfl, rfl, SqT.of hsp, rfl, rfl, _, rfl, iteT' (decide_eq_true rfl) ?_⟩
          refine pick_ok Si.cl fun p0 G4 b hcl4 hp0 => ?_
          have hkl : kvs.length < sizeLine := by
            rw [hR.len]
            exact small1000 (by omega)
          have hkd4 := b _ _ dnc hkd
          have hsp4 := (b.tr (K := K) hus).2 _ _ hsp
          refine ⟨_, rfl, _, rfl, sp, _, _, _, rfl, rfl, SqT.of hsp4, rfl, D, _, rfl, DPut.k (k := keyOf x) hkd4 hkl, fin _ rfl _ D _ _ _ _ _ _ _ _ (fun a o na k => ?_) nD ⟨_, upd_same, ?_⟩ ?_⟩
          · rw [upd_ne (ne_of_none k nD)]
            exact b _ _ na (bG _ _ na k)
          · exact (((hR.mono (b.tr (K := K) hus)).putV (f := nxF si.2) ⟨SqT.of hp0, .inr hp0⟩ oki.1).mono (Tr.updD hkd4))
          · exact hcl4.but (b := D) (fun p o k n => by rw [upd_ne n]; exact k) (fun xs k => by rw [hkd4] at k; cases k) dnc.symm
        | chk ts r =>
          obtain ⟨rfl, _⟩ := List.cons.inj hc
          obtain ⟨sp, vt, rfl, hsp, ht⟩ := two_inv hv
          refine ⟨_, rfl, sp, _, _, _, rfl, rfl, SqT.of hsp, rfl, rfl, _, rfl, iteF' (decide_eq_false fun e => absurd (V.str.inj e) (by decide +kernel)) ?_⟩
          refine ⟨_, rfl, sp, _, _, _, rfl, rfl, SqT.of hsp, rfl, rfl, _, rfl, iteF' (decide_eq_false fun e => absurd (V.str.inj e) (by decide +kernel)) ?_⟩
          refine ⟨_, rfl, sp, _, _, _, rfl, rfl, SqT.of hsp, rfl, rfl, _, rfl, iteT' (decide_eq_true rfl) ?_⟩
          obtain ⟨P1, xs1, rfl, gt1, hts1⟩ : ∃ P0 xs, vt = .ref P0 ∧ G1 P0 = some (.tup xs) ∧ DtAll z G1 xs (ts.map tkD) := by
            cases ht with
            | tup g hs => exact ⟨_, _, rfl, g, hs⟩
          have tl : ts.length ≤ 2 := oki.1.1
          refine ⟨_, rfl, sp, _, _, _, rfl, rfl, SqT.of hsp, rfl, P1, rfl, ⟨_, SqT.of gt1⟩, fun L nL => ?_⟩
          refine lc_tup (K := K) (a := P1) (xs := xs1) (fun i H2 => Same G1 H2 ∧ H2 L = some (.lst (((ts.take i).map (kpt si.1)).map V.bl))) ⟨same_upd nL, upd_same⟩ (fun i H2 _ hq => SqT.of (hq.1 _ _ gt1)) (fun i x H2 hx hq => ?_) (fun H2 hq => ?_)
          · obtain ⟨dd, hd, hdt⟩ := DtAll.at i hts1 hx
            rw [List.getElem?_map] at hd
            obtain ⟨t, he, rfl⟩ := Option.map_eq_some_iff.mp hd
            refine ⟨rfl, _, rfl, _, rfl, x, D, z, t, ws, si.1, ki, rfl, hdt.same hq.1, oki.1.2 t (List.mem_of_getElem? he), Si.rd.same hq.1, Si.lv, by omega, fun H3 s3 => ?_⟩
            refine ⟨_, s3 _ _ hq.2, ?_, ?_, ?_⟩
            · rw [List.length_map, List.length_map, List.length_take]
              exact small1000 (by omega)
            · exact fun b o e => by
                rw [upd_ne (ne_of_none e nL)]
                exact (hq.1.trans s3) b o e
            · rw [upd_same, List.take_add_one, he, List.map_append, List.map_append]
              rfl
          · have xl := hts1.len
            rw [List.length_map] at xl
            rw [xl, List.take_length] at hq
            refine ⟨L, _, rfl, .inl (.inl hq.2), _, rfl, ?_⟩
            have e : go (one (.chk ts r)) si = if ts.all (kpt si.1) = true then some si else none := rfl
            show ite ((!((ts.map (kpt si.1)).all id)) = true) _ _
            rw [List.all_map]
            have bG2 : But1 cl H H2 := fun a o n k => hq.1 _ _ (bG a o n k)
            cases e2 : ts.all (kpt si.1) with
            | true =>
              refine iteF' (by show (!(ts.all (kpt si.1))) = false; rw [e2]; rfl) (fin si (by rw [e, if_pos e2]) _ D _ _ _ _ _ _ _ _ bG2 nD (Si.rd.same hq.1) (Si.cl.same hq.1))
            | false =>
              refine iteT' (by show (!(ts.all (kpt si.1))) = true; rw [e2]; rfl) (non (by rw [e, e2]; rfl) _ bG2)
        | eit p1 p2 r =>
          obtain ⟨rfl, _⟩ := List.cons.inj hc
          obtain ⟨sp, va, vb, rfl, hsp, ha, hb⟩ := three_inv hv
          refine ⟨_, rfl, sp, _, _, _, rfl, rfl, SqT.of hsp, rfl, rfl, _, rfl, iteF' (decide_eq_false fun e => absurd (V.str.inj e) (by decide +kernel)) ?_⟩
          refine ⟨_, rfl, sp, _, _, _, rfl, rfl, SqT.of hsp, rfl, rfl, _, rfl, iteF' (decide_eq_false fun e => absurd (V.str.inj e) (by decide +kernel)) ?_⟩
          refine ⟨_, rfl, sp, _, _, _, rfl, rfl, SqT.of hsp, rfl, rfl, _, rfl, iteF' (decide_eq_false fun e => absurd (V.str.inj e) (by decide +kernel)) ?_⟩
          refine ⟨_, rfl, sp, _, _, _, rfl, rfl, SqT.of hsp, rfl, rfl, _, rfl, iteT' (decide_eq_true rfl) ?_⟩
          have hd : max (max (dep p1 + 1) (dep p2 + 1)) 0 ≤ n := Nat.le_trans dn.1 di
          obtain ⟨n, rfl⟩ : ∃ n', n = n' + 1 := ⟨n - 1, by omega⟩
          have ck : cnt (one (.eit p1 p2 r)) = max (cnt p1) (cnt p2) + 0 := rfl
          have eg : go (one (.eit p1 p2 r)) si = (if (nxF si.2).1 = 0 then go p1 (si.1, si.2.tail) else go p2 (si.1, si.2.tail)) := bind_go_nil _
          rw [eg] at non fin
          refine ⟨fun σ G4 => But1 cl G1 G4 ∧ CLp G4 cl si.2.tail ∧ ∃ pp, G4 pp = some (trF (nxF si.2)) ∧ σ = [some (.ref P0), some (.ref d), some (.ref cl), some (.ref D), some (.ref sp), y5, y6, y7, y8, some (.ref pp), y10, y11], ?_, fun σ G4 hM => ?_⟩
          · exact pick_ok Si.cl fun p0 G4 b h1 h2 => ⟨b, h1, p0, h2, rfl⟩
          obtain ⟨b4, hcl4, pp, hpp, rfl⟩ := hM
          have bt := b4.tr (K := K) hus
          have S4 : St9 K D cl ws ki G4 (si.1, si.2.tail) := ⟨⟨kvs, b4 _ _ dnc hkd, hR.mono bt⟩, hcl4, Si.lv, tl_ch Si.ch, by have := Si.ln; show si.2.tail.length ≤ 100; rw [List.length_tail]; omega⟩
          have tt4 : TT G1 G4 := fun p xs e => bt.2 _ _ e
          have hsp4 := bt.2 _ _ hsp
          obtain ⟨us4, hus4, _⟩ := hcl4
          have bH4 := b1_trans bG b4
          refine ⟨fun σ G5 => (But1 cl H G5 ∧ ∃ t D2, (if (nxF si.2).1 = 0 then go p1 (si.1, si.2.tail) else go p2 (si.1, si.2.tail)) = some t ∧ H D2 = none ∧ RD K G5 D2 ws t.1 ∧ CLp G5 cl t.2 ∧ σ = [some (.ref P0), some (.ref d), some (.ref cl), some (.ref D2), some (.ref sp), y5, y6, y7, y8, some (.ref pp), y10, y11]) ∨ But1 cl H G5 ∧ (if (nxF si.2).1 = 0 then go p1 (si.1, si.2.tail) else go p2 (si.1, si.2.tail)) = none ∧ σ = [some (.ref P0), some (.ref d), some (.ref cl), some .non, some (.ref sp), y5, y6, y7, y8, some (.ref pp), y10, y11], ?_, fun σ G5 hM => ?_⟩
          · refine ⟨_, rfl, pp, _, _, _, rfl, rfl, SqT.of hpp, rfl, rfl, _, rfl, ite2 (fun e => ?_) (fun e => ?_)⟩
            · have e := V.int.inj (of_decide_eq_true e)
              rw [if_pos e]
              refine ⟨_, rfl, sp, _, _, _, rfl, rfl, SqT.of hsp4, rfl, _, rfl, _, rfl, va, D, cl, z, p1, ws, _, ki, rfl, Dt.tups tt4 _ _ (noLs_pg p1) ha, oki.1.1, by omega, S4, by omega, hwl, fun en G5 b5 => Or.inr ⟨b1_trans bH4 b5, en, rfl⟩, fun t et D2 G5 b5 n5 r5 c5 => Or.inl ⟨b1_trans bH4 b5, t, D2, et, b1_none bH4 hus4 n5, r5, c5, rfl⟩⟩
            · have e : (nxF si.2).1 ≠ 0 := fun z => e (decide_eq_true (by rw [z]))
              rw [if_neg e]
              refine ⟨_, rfl, sp, _, _, _, rfl, rfl, SqT.of hsp4, rfl, _, rfl, _, rfl, vb, D, cl, z, p2, ws, _, ki, rfl, Dt.tups tt4 _ _ (noLs_pg p2) hb, oki.1.2, by omega, S4, by omega, hwl, fun en G5 b5 => Or.inr ⟨b1_trans bH4 b5, en, rfl⟩, fun t et D2 G5 b5 n5 r5 c5 => Or.inl ⟨b1_trans bH4 b5, t, D2, et, b1_none bH4 hus4 n5, r5, c5, rfl⟩⟩
          rcases hM with ⟨b5, t, D2, et, n5, r5, c5, rfl⟩ | ⟨b5, en, rfl⟩
          · exact ⟨_, rfl, rfl, _, rfl, iteF' rfl (fin t et _ D2 _ _ _ _ _ _ _ _ b5 n5 r5 c5)⟩
          · exact ⟨_, rfl, rfl, _, rfl, iteT' rfl (non en _ b5)⟩
        | rep m p1 r =>
          obtain ⟨rfl, _⟩ := List.cons.inj hc
          obtain ⟨sp, va, vb, rfl, hsp, ha, hb⟩ := three_inv hv
          refine ⟨_, rfl, sp, _, _, _, rfl, rfl, SqT.of hsp, rfl, rfl, _, rfl, iteF' (decide_eq_false fun e => absurd (V.str.inj e) (by decide +kernel)) ?_⟩
          refine ⟨_, rfl, sp, _, _, _, rfl, rfl, SqT.of hsp, rfl, rfl, _, rfl, iteF' (decide_eq_false fun e => absurd (V.str.inj e) (by decide +kernel)) ?_⟩
          refine ⟨_, rfl, sp, _, _, _, rfl, rfl, SqT.of hsp, rfl, rfl, _, rfl, iteF' (decide_eq_false fun e => absurd (V.str.inj e) (by decide +kernel)) ?_⟩
          refine ⟨_, rfl, sp, _, _, _, rfl, rfl, SqT.of hsp, rfl, rfl, _, rfl, iteF' (decide_eq_false fun e => absurd (V.str.inj e) (by decide +kernel)) ?_⟩
          have hd : max (dep p1 + 1) 0 ≤ n := Nat.le_trans dn.1 di
          obtain ⟨n, rfl⟩ : ∃ n', n = n' + 1 := ⟨n - 1, by omega⟩
          have ck : cnt (one (.rep m p1 r)) = m * cnt p1 + 0 := rfl
          have eg : go (one (.rep m p1 r)) si = itr (go p1) m si := bind_go_nil _
          rw [eg] at non fin
          have m4 : m ≤ 4 := oki.1.1
          cases ha
          refine ⟨_, rfl, sp, _, _, _, rfl, rfl, SqT.of hsp, rfl, (m : Int), rfl, by omega, by omega, ?_⟩
          rw [Int.toNat_natCast]
          refine for_range (n := m) (fun j σ G4 => But1 cl H G4 ∧ TT G1 G4 ∧ ∃ (t : Sta) (D2 : Addr) (y10 : Option V), itr (go p1) j si = some t ∧ H D2 = none ∧ St9 K D2 cl ws (ki + j * cnt p1) G4 t ∧ σ = [some (.ref P0), some (.ref d), some (.ref cl), some (.ref D2), some (.ref sp), y5, y6, y7, y8, y9, y10, y11]) ⟨bG, fun _ _ e => e, si, D, _, rfl, nD, by rw [Nat.zero_mul, Nat.add_zero]; exact Si, rfl⟩ (fun j σ G4 hj hq => ?_) (fun σ G4 hq => ?_)
          · obtain ⟨b4, tt4, t, D2, y10, et, n2, S4, rfl⟩ := hq
            have sn := itr_snoc (go p1) j si
            rw [et] at sn
            have sn : itr (go p1) (j + 1) si = go p1 t := sn
            have jm : (j + 1) * cnt p1 ≤ m * cnt p1 := Nat.mul_le_mul_right _ hj
            have js : (j + 1) * cnt p1 = j * cnt p1 + cnt p1 := Nat.succ_mul j (cnt p1)
            obtain ⟨us4, hus4, _⟩ := S4.cl
            refine ⟨fun σ G5 => (But1 cl H G5 ∧ TT G1 G5 ∧ ∃ t2 D3 y, go p1 t = some t2 ∧ H D3 = none ∧ RD K G5 D3 ws t2.1 ∧ CLp G5 cl t2.2 ∧ σ = [some (.ref P0), some (.ref d), some (.ref cl), some (.ref D3), some (.ref sp), y5, y6, y7, y8, y9, y, y11]) ∨ But1 cl H G5 ∧ go p1 t = none ∧ ∃ y, σ = [some (.ref P0), some (.ref d), some (.ref cl), some .non, some (.ref sp), y5, y6, y7, y8, y9, y, y11], ?_, fun σ G5 hM => ?_⟩
            · have tt5 : ∀ G5, But1 cl G4 G5 → TT G1 G5 := fun G5 b p xs e => b _ _ (fun z => by have := tt4 _ _ e; rw [z, hus4] at this; cases this) (tt4 _ _ e)
              refine ⟨_, rfl, sp, _, _, _, rfl, rfl, SqT.of (tt4 _ _ hsp), rfl, _, rfl, _, rfl, vb, D2, cl, z, p1, ws, t, ki + j * cnt p1, rfl, Dt.tups tt4 _ _ (noLs_pg p1) hb, oki.1.2.2, by omega, S4, by omega, hwl, fun en G5 b5 => Or.inr ⟨b1_trans b4 b5, en, _, rfl⟩, fun t2 et2 D3 G5 b5 n5 r5 c5 => Or.inl ⟨b1_trans b4 b5, tt5 _ b5, t2, D3, _, et2, b1_none b4 hus4 n5, r5, c5, rfl⟩⟩
            rcases hM with ⟨b5, tt5, t2, D3, y, et2, n5, r5, c5, rfl⟩ | ⟨b5, en, y, rfl⟩
            · refine ⟨_, rfl, rfl, _, rfl, iteF' rfl ⟨b5, tt5, t2, D3, y, sn.trans et2, n5, ?_, rfl⟩⟩
              have st := go_st9 oki.1.2.2 S4 et2 r5 c5
              rw [js, ← Nat.add_assoc]
              exact st
            · exact ⟨_, rfl, rfl, _, rfl, iteT' rfl (non (itr_none (sn.trans en) m hj) _ b5)⟩
          · obtain ⟨b4, tt4, t, D2, y10, et, n2, S4, rfl⟩ := hq
            exact fin t et _ D2 _ _ _ _ _ _ _ _ b4 n2 S4.rd S4.cl
      · obtain ⟨bG, pi, si, ki, D, y4, y5, y6, y7, y8, y9, y10, y11, hpi, oki, di, Si, ci, nD, gi, rfl⟩ := hq
        have xl := hts.len
        rw [xl, List.drop_length] at hpi
        refine ⟨bG, si, D, y4, y5, y6, y7, y8, y9, y10, y11, ?_, Si.rd, Si.cl, nD, rfl⟩
        rw [gi]
        cases pi with
        | nil => rfl
        | set x f g r => cases hpi
        | any x r => cases hpi
        | chk ts r => cases hpi
        | eit p q r => cases hpi
        | rep n p r => cases hpi
    · obtain ⟨bG, t, D, y4, y5, y6, y7, y8, y9, y10, y11, e, hr1, hc1, nD, rfl⟩ := hM
      exact ⟨_, rfl, q.2 t e D G1 bG nD hr1 hc1⟩
theorem walk_all (T : Txt K mg fa fd) : ∀ n, FnOk P w K mg base CX0 (n + 7) (fa 48) (fd 48) ["_law_program_here", "_law_values", "_law_left"] (spW K n)
  | 0 => T.F_walk.ok sc_walk (fun vs H Q E h => h.elim) (fun cdv A outer s0 H vs Q E hr h => h.elim)
  | n + 1 => walk_step T n (walk_all T n)
end
section
variable {P : Program} {w : World} {K : PySem.W.Frag} {mg : Str → Option Value} {base : Heap} {fa : Nat → Addr} {fd : Nat → FuncData}
/-! ### the law's run -/
theorem ok_walk (T : Txt K mg fa fd) : FnOk P w K mg base CX0 10 (fa 48) (fd 48) ["_law_program_here", "_law_values", "_law_left"] (spW K 3) := walk_all T 3
def LRunPost (K : PySem.W.Frag) (ws : List Nm) (H : Hp) (o : Option Sta) (Q : VK) : Prop :=
  (o = none → ∀ H', Same H H' → Q .non H') ∧ ∀ t, o = some t → ∀ d H', Same H H' → H d = none → RD K H' d ws t.1 → Q (.ref d) H'
def spLRun (K : PySem.W.Frag) : Sp := fun vs H Q _ => ∃ (vp : V) (d z cl : Addr) (p : Pg) (ws : List Nm) (s : Sta), vs = [vp, .ref d, .ref cl] ∧ Dt z H vp (.tuple (pgL p)) ∧ PgOk ws p ∧ dep p ≤ 2 ∧ St9 K d cl ws 0 H s ∧ cnt p ≤ 40 ∧ ws.length ≤ 100 ∧ LRunPost K ws H (go p s) Q
theorem ok_run (T : Txt K mg fa fd) : FnOk P w K mg base CX0 11 (fa 49) (fd 49) ["_law_program_here", "_law_values", "_law_choices"] (spLRun K) := by
  refine T.F_run.ok sc_run (fun vs H Q E h => ?_) (fun cdv A outer s0 H vs Q E hr h => ?_)
  · obtain ⟨vp, d, z, cl, p, ws, s, rfl, _⟩ := h
    rfl
  · obtain ⟨vp, d, z, cl, p, ws, s, rfl, hp, ok, hdep, S0, hk, hwl, q⟩ := h
    refine ⟨_, (pss_one (ps_ret (pe_call (ok_walk T) (hr.mono (by decide)) (by rfl) T.g_walk T.F_walk.kp T.b_walk .nil pass0 (pa_cons (pv 0) (pa_cons (pv 1) (pa_cons (pe_callTy call_list_of (by rfl) T.m_list (by decide +kernel) (pa_cons (pv 2) pa_nil)) pa_nil)))))), ?_⟩
    obtain ⟨us, hus, hps⟩ := S0.cl
    refine ⟨_, rfl, _, rfl, _, rfl, cl, us, rfl, .inl (SqL.of hus), fun L nL => ?_⟩
    have sL : Same H (upd H L (.lst us)) := same_upd nL
    have back : ∀ G, But1 L (upd H L (.lst us)) G → Same H G := fun G b a o e => b _ _ (fun z => by rw [z, nL] at e; cases e) (sL _ _ e)
    refine ⟨vp, d, L, z, p, ws, s, 0, rfl, hp.same sL, ok, hdep, ⟨S0.rd.same sL, ⟨us, upd_same, pair_imp (fun _ _ ⟨p, e, k⟩ => ⟨p, e, sL _ _ k⟩) hps⟩, S0.lv, S0.ch, S0.ln⟩, by omega, hwl, fun e G b => q.1 e G (back G b), fun t e D G b n r c => q.2 t e D G (back G b) ?_ r⟩
    cases e2 : H D with
    | none => rfl
    | some o =>
      rw [sL _ _ e2] at n
      cases n
end
section
variable {P : Program} {w : World} {K : PySem.W.Frag} {mg : Str → Option Value} {base : Heap} {fa : Nat → Addr} {fd : Nat → FuncData}
/-! ### drawn forms -/
def FmR : List FR := [(1, 1), (1, 1), (-1, 1), (2, 1), (1, 2), (0, 1)]
def FmN : List FR := [(0, 1), (1, 1), (-1, 1), (1, 2), (-3, 1), (0, 1)]
theorem fmr_ok : ∀ r ∈ FmR, r ∈ ([(1, 1), (-1, 1), (2, 1), (1, 2), (0, 1)] : List FR) ∧ (r.1 = 0 → r = (0, 1)) := by
  intro c hc
  simp only [FmR, List.mem_cons, List.not_mem_nil, or_false] at hc
  rcases hc with rfl | rfl | rfl | rfl | rfl | rfl <;> (refine ⟨by simp, by decide⟩)
theorem fmn_ok : ∀ r ∈ FmN, Nf r ∧ r.2 ∣ 2 ∧ (r.1.natAbs : Int) ≤ 3 * r.2 := by
  intro c hc
  simp only [FmN, List.mem_cons, List.not_mem_nil, or_false] at hc
  rcases hc with rfl | rfl | rfl | rfl | rfl | rfl <;> (unfold Nf; decide +kernel)
theorem fmn_in {d : PyData} (hd : d ∈ FmN.map frP) : ∃ r ∈ FmN, d = frP r := by
  obtain ⟨r, h, rfl⟩ := List.mem_map.mp hd
  exact ⟨r, h, rfl⟩
theorem slen {x : List Nat} (h : x.length ≤ 7) : (SX.S x).length ≤ 1000 := by
  rw [show (SX.S x).length = x.length from SX.S_len x]
  omega
def spForm : Sp := fun vs H Q _ => ∃ (a c p : Addr) (ws : List Nm), vs = [.ref a, .ref p] ∧ FeedOk H a c ∧ p ≠ a ∧ H p = some (.lst (ws.map vS)) ∧ ws ≠ [] ∧ ws.length ≤ 6 ∧ (∀ x ∈ ws, nameB x = true ∧ x.length ≤ 7) ∧
  ∀ v f H', FeedOk H' a c → But a H H' → Dt a H' v (fmD f) → FmOk ws f → (f.num.1.natAbs : Int) ≤ 3 * f.num.2 → Q v H'
theorem ok_form (T : Txt K mg fa fd) : FnOk P w K mg base CX0 3 (fa 44) (fd 44) ["_law_feed_here", "_law_words_here"] spForm := by
  refine T.F_form.ok sc_form (fun vs H Q E h => ?_) (fun cdv A outer s H vs Q E hr h => ?_)
  · obtain ⟨a, c, p, ws, rfl, _⟩ := h
    rfl
  · obtain ⟨a, c, p, ws, rfl, hF, npa, hp, hne, hl, hw, q⟩ := h
    refine ⟨_, (C8.pss_cut (ps_set (i := 2) sc_form.nd rfl (.inl rfl) (pe_call (ok_any T) (hr.mono (by decide)) (by rfl) T.g_any T.F_any.kp T.b_any .nil pass0 (pa_cons (pv 0) (pa_cons (pe_lst (pa_cons (pe_tup (pa_cons pe_int (pa_cons pe_int pa_nil))) (pa_cons (pe_tup (pa_cons pe_int (pa_cons pe_int pa_nil))) (pa_cons (pe_tup (pa_cons (pe_un un_neg pe_int) (pa_cons pe_int pa_nil))) (pa_cons (pe_tup (pa_cons pe_int (pa_cons pe_int pa_nil))) (pa_cons (pe_tup (pa_cons pe_int (pa_cons pe_int pa_nil))) (pa_cons (pe_tup (pa_cons pe_int (pa_cons pe_int pa_nil))) pa_nil))))))) pa_nil))))
      (C8.pss_cut (ps_set (i := 3) sc_form.nd rfl (.inl rfl) (pe_call (ok_any T) (hr.mono (by decide)) (by rfl) T.g_any T.F_any.kp T.b_any .nil pass0 (pa_cons (pv 0) (pa_cons (pe_lst (pa_cons (pe_tup (pa_cons pe_int (pa_cons pe_int pa_nil))) (pa_cons (pe_tup (pa_cons pe_int (pa_cons pe_int pa_nil))) (pa_cons (pe_tup (pa_cons (pe_un un_neg pe_int) (pa_cons pe_int pa_nil))) (pa_cons (pe_tup (pa_cons pe_int (pa_cons pe_int pa_nil))) (pa_cons (pe_tup (pa_cons (pe_un un_neg pe_int) (pa_cons pe_int pa_nil))) (pa_cons (pe_tup (pa_cons pe_int (pa_cons pe_int pa_nil))) pa_nil))))))) pa_nil))))
      (pss_one (ps_ret (pe_ifExp (pt_cmpR op_ne (pe_ix ix_tup (pv 2) pe_int (fun _ _ => rfl)) pe_int (nomark _)) (pe_tup (pa_cons (pv 2) (pa_cons (pe_call (ok_any T) (hr.mono (by decide)) (by rfl) T.g_any T.F_any.kp T.b_any .nil pass0 (pa_cons (pv 0) (pa_cons (pv 1) pa_nil))) (pa_cons (pv 3) pa_nil)))) (pe_tup (pa_cons (pv 2) (pa_cons pe_str (pa_cons (pv 3) pa_nil))))))))), ?_⟩
    refine ⟨fun σ G => FeedOk G a c ∧ But a H G ∧ ∃ v r, r ∈ FmR ∧ Dt a G v (frP r) ∧ σ = [some (.ref a), some (.ref p), some v, none], ?_, fun σ G hM => ?_⟩
    · skip
      refine ⟨_, rfl, (small_line (by decide : 2 ≤ 1000)), fun p1 n1 => ?_⟩
      obtain ⟨s1, d1⟩ := dnewT (z := a) n1 (.cons (.int 1 (by decide +kernel)) (.cons (.int 1 (by decide +kernel)) .nil))
      refine ⟨(small_line (by decide : 2 ≤ 1000)), fun p2 n2 => ?_⟩
      obtain ⟨s2, d2⟩ := dnewT (z := a) n2 (.cons (.int 1 (by decide +kernel)) (.cons (.int 1 (by decide +kernel)) .nil))
      refine ⟨_, rfl, (small_line (by decide : 2 ≤ 1000)), fun p3 n3 => ?_⟩
      obtain ⟨s3, d3⟩ := dnewT (z := a) n3 (.cons (.int (-1) (by decide +kernel)) (.cons (.int 1 (by decide +kernel)) .nil))
      refine ⟨(small_line (by decide : 2 ≤ 1000)), fun p4 n4 => ?_⟩
      obtain ⟨s4, d4⟩ := dnewT (z := a) n4 (.cons (.int 2 (by decide +kernel)) (.cons (.int 1 (by decide +kernel)) .nil))
      refine ⟨(small_line (by decide : 2 ≤ 1000)), fun p5 n5 => ?_⟩
      obtain ⟨s5, d5⟩ := dnewT (z := a) n5 (.cons (.int 1 (by decide +kernel)) (.cons (.int 2 (by decide +kernel)) .nil))
      refine ⟨(small_line (by decide : 2 ≤ 1000)), fun p6 n6 => ?_⟩
      obtain ⟨s6, d6⟩ := dnewT (z := a) n6 (.cons (.int 0 (by decide +kernel)) (.cons (.int 1 (by decide +kernel)) .nil))
      refine ⟨(small_line (by decide : 6 ≤ 1000)), fun p7 n7 => ?_⟩
      obtain ⟨s7, all, hrw⟩ := drow (z := a) n7 (.cons (d1.same (s2.trans (s3.trans (s4.trans (s5.trans s6))))) (.cons (d2.same (s3.trans (s4.trans (s5.trans s6)))) (.cons (d3.same (s4.trans (s5.trans s6))) (.cons (d4.same (s5.trans s6)) (.cons (d5.same s6) (.cons d6 .nil))))))
      have sR := (s1.trans (s2.trans (s3.trans (s4.trans (s5.trans (s6.trans s7))))))
      refine ⟨a, c, p7, _, rfl, hF.same sR, hrw, new_ne (hF.same (s1.trans (s2.trans (s3.trans (s4.trans (s5.trans s6)))))) n7, by show 0 < 6; decide, by show 6 ≤ 1000; decide, fun v H2 hv hF2 b2 => ?_⟩
      obtain ⟨d, hd, h⟩ := all.mem hv
      have h2 := h.but (hF.same sR) b2
      have hd : d ∈ FmR.map frP := hd
      obtain ⟨r, hr1, rfl⟩ := List.mem_map.mp hd
      exact ⟨hF2, (But.of (a := a) sR).trans b2, v, r, hr1, h2, rfl⟩
    obtain ⟨hF1, b1, v, r, hr1, dv, rfl⟩ := hM
    refine ⟨fun σ G2 => FeedOk G2 a c ∧ But a H G2 ∧ ∃ u m, m ∈ FmN ∧ Dt a G2 v (frP r) ∧ Dt a G2 u (frP m) ∧ σ = [some (.ref a), some (.ref p), some v, some u], ?_, fun σ G2 hM => ?_⟩
    · skip
      refine ⟨_, rfl, (small_line (by decide : 2 ≤ 1000)), fun p1 n1 => ?_⟩
      obtain ⟨s1, d1⟩ := dnewT (z := a) n1 (.cons (.int 0 (by decide +kernel)) (.cons (.int 1 (by decide +kernel)) .nil))
      refine ⟨(small_line (by decide : 2 ≤ 1000)), fun p2 n2 => ?_⟩
      obtain ⟨s2, d2⟩ := dnewT (z := a) n2 (.cons (.int 1 (by decide +kernel)) (.cons (.int 1 (by decide +kernel)) .nil))
      refine ⟨_, rfl, (small_line (by decide : 2 ≤ 1000)), fun p3 n3 => ?_⟩
      obtain ⟨s3, d3⟩ := dnewT (z := a) n3 (.cons (.int (-1) (by decide +kernel)) (.cons (.int 1 (by decide +kernel)) .nil))
      refine ⟨(small_line (by decide : 2 ≤ 1000)), fun p4 n4 => ?_⟩
      obtain ⟨s4, d4⟩ := dnewT (z := a) n4 (.cons (.int 1 (by decide +kernel)) (.cons (.int 2 (by decide +kernel)) .nil))
      refine ⟨_, rfl, (small_line (by decide : 2 ≤ 1000)), fun p5 n5 => ?_⟩
      obtain ⟨s5, d5⟩ := dnewT (z := a) n5 (.cons (.int (-3) (by decide +kernel)) (.cons (.int 1 (by decide +kernel)) .nil))
      refine ⟨(small_line (by decide : 2 ≤ 1000)), fun p6 n6 => ?_⟩
      obtain ⟨s6, d6⟩ := dnewT (z := a) n6 (.cons (.int 0 (by decide +kernel)) (.cons (.int 1 (by decide +kernel)) .nil))
      refine ⟨(small_line (by decide : 6 ≤ 1000)), fun p7 n7 => ?_⟩
      obtain ⟨s7, all, hrw⟩ := drow (z := a) n7 (.cons (d1.same (s2.trans (s3.trans (s4.trans (s5.trans s6))))) (.cons (d2.same (s3.trans (s4.trans (s5.trans s6)))) (.cons (d3.same (s4.trans (s5.trans s6))) (.cons (d4.same (s5.trans s6)) (.cons (d5.same s6) (.cons d6 .nil))))))
      have sR := (s1.trans (s2.trans (s3.trans (s4.trans (s5.trans (s6.trans s7))))))
      refine ⟨a, c, p7, _, rfl, hF1.same sR, hrw, new_ne (hF1.same (s1.trans (s2.trans (s3.trans (s4.trans (s5.trans s6)))))) n7, by show 0 < 6; decide, by show 6 ≤ 1000; decide, fun u H2 hu hF2 b2 => ?_⟩
      obtain ⟨d, hd, h⟩ := all.mem hu
      have h2 := h.but (hF1.same sR) b2
      have dv2 := (dv.same sR).but (hF1.same sR) b2
      have hd : d ∈ FmN.map frP := hd
      obtain ⟨m, hm1, rfl⟩ := List.mem_map.mp hd
      exact ⟨hF2, b1.trans ((But.of (a := a) sR).trans b2), u, m, hm1, dv2, h2, rfl⟩
    obtain ⟨hF2, b2, u, m, hm1, dv2, du2, rfl⟩ := hM
    obtain ⟨pr, rfl, hpr⟩ := dt_fr dv2
    have hp2 := b2 _ _ npa hp
    have nm := fmn_ok m hm1
    have rm := fmr_ok r hr1
    have w0 : 0 < ws.length := by
      cases ws with
      | nil => exact absurd rfl hne
      | cons _ _ => simp
    refine ⟨_, rfl, pr, _, _, _, rfl, rfl, SqT.of hpr, rfl, rfl, _, rfl, ite2 (fun e => ?_) (fun e => ?_)⟩
    · have hz : r.1 ≠ 0 := fun z => by
        rw [z] at e
        simp at e
      refine ⟨_, rfl, _, rfl, _, rfl, a, c, p, _, rfl, hF2, hp2, npa, by rw [List.length_map]; exact w0, by rw [List.length_map]; omega, fun w3 H3 hw3 hF3 b3 => ?_⟩
      obtain ⟨x, hx, rfl⟩ := List.mem_map.mp hw3
      have hxw := hw x hx
      refine ⟨_, rfl, small_line (by show 3 ≤ 1000; decide), fun o no => ?_⟩
      obtain ⟨so, d0⟩ := dnewT (z := a) no (.cons (dv2.but hF2 b3) (.cons (.str (SX.S x) (slen hxw.2)) (.cons (du2.but hF2 b3) .nil)))
      refine q (.ref o) ⟨r, x, m⟩ _ (hF3.same so) (b2.trans (b3.trans (But.of so))) d0 ⟨rm.1, fun _ => hx, ⟨fun h => ?_, fun h => ?_⟩, nm.1, nm.2.1, by have := nm.2.2; have := nm.1.1; show (m.1.natAbs : Int) ≤ 4 * m.2; omega⟩ nm.2.2
      · have h : r = (0, 1) := h
        rw [h] at hz
        exact absurd rfl hz
      · have h : x = [] := h
        rw [h] at hxw
        exact absurd hxw.1 (by decide)
    · have hz : r.1 = 0 := Classical.byContradiction fun z => e (by simp [z])
      have hr0 := rm.2 hz
      refine ⟨_, rfl, _, rfl, small_line (by show 3 ≤ 1000; decide), fun o no => ?_⟩
      obtain ⟨so, d0⟩ := dnewT (z := a) no (.cons dv2 (.cons (.str (SX.S []) (slen (Nat.zero_le _))) (.cons du2 .nil)))
      exact q (.ref o) ⟨r, [], m⟩ _ (hF2.same so) (b2.trans (But.of so)) d0 ⟨rm.1, fun h => absurd hr0 h, ⟨fun _ => rfl, fun _ => hr0⟩, nm.1, nm.2.1, by have := nm.2.2; have := nm.1.1; show (m.1.natAbs : Int) ≤ 4 * m.2; omega⟩ nm.2.2
end
/-! ### drawn checks: small numbers -/
def RR : List FR := ([-5, -4, -3, -2, -1, 1, 2, 3, 4, 5] : List Int).flatMap fun t => (([1, 2, 3] : List Int).filter fun u => Int.gcd t u == 1).map fun u => (t, u)
def BB : List FR := [(0, 1), (1, 1), (3, 1), (-1, 2), (5, 1)]
def smB (f : FR) : Bool := decide (0 < f.2) && (Int.gcd f.1 f.2 == 1) && decide (f.1.natAbs < 2 ^ 40) && decide (f.2.natAbs < 2 ^ 40)
theorem red1 : (RR.all fun f => smB (redF (scl [f]) f) && BB.all fun b => smB (redF (scl [f]) b)) = true := by decide +kernel
theorem red2 : (RR.all fun f => RR.all fun g => smB (redF (scl [f, g]) f) && smB (redF (scl [f, g]) g) && BB.all fun b => smB (redF (scl [f, g]) b)) = true := by decide +kernel
theorem smB_ok {f : FR} (h : smB f = true) : Nf f ∧ Bn 40 f := by
  unfold smB at h
  simp only [Bool.and_eq_true, decide_eq_true_eq, beq_iff_eq] at h
  exact ⟨⟨h.1.1.1, h.1.1.2⟩, ⟨h.1.2, h.2⟩⟩
theorem rr_in {t u : Int} (ht : t ≠ 0) (h5 : t.natAbs ≤ 5) (hu : 0 < u) (h3 : u.natAbs ≤ 3) (hg : Int.gcd t u = 1) : (t, u) ∈ RR := by
  unfold RR
  rw [List.mem_flatMap]
  refine ⟨t, ?_, ?_⟩
  · simp only [List.mem_cons, List.not_mem_nil, or_false]
    omega
  · rw [List.mem_map]
    refine ⟨u, List.mem_filter.mpr ⟨?_, ?_⟩, rfl⟩
    · simp only [List.mem_cons, List.not_mem_nil, or_false]
      omega
    · exact beq_iff_eq.mpr hg
theorem okr_rr {r : PyData} (h : okR r) : ∃ f ∈ RR, r = frP f := by
  obtain ⟨t, u, rfl⟩ := ratD_inv h.1
  have h1 : (decide (1 ≤ u) && decide (Int.gcd t u = 1)) = true := h.1
  simp only [Bool.and_eq_true, decide_eq_true_eq] at h1
  have h2 := h.2.1
  have h3 := h.2.2
  refine ⟨(t, u), rr_in ?_ ?_ (by omega) ?_ h1.2, rfl⟩
  · exact of_decide_eq_true (show decide (t ≠ 0) = true from h2)
  · exact (of_decide_eq_true (show decide (t.natAbs ≤ 5 ∧ u.natAbs ≤ 3) = true from h3)).1
  · exact (of_decide_eq_true (show decide (t.natAbs ≤ 5 ∧ u.natAbs ≤ 3) = true from h3)).2
theorem trm_tl {ws : List Nm} : ∀ {ts : List (Str × PyData)}, (∀ t ∈ ts, okR t.2 ∧ ∃ x ∈ ws, t.1 = SX.S x) → ∃ tl : List It, ts.map trm1 = tl.map tmP ∧ tl.length = ts.length ∧ ∀ u ∈ tl, u.1 ∈ ws ∧ u.2 ∈ RR
  | [], _ => ⟨[], rfl, rfl, fun u h => by cases h⟩
  | (n, r) :: ts, h => by
    obtain ⟨tl, e, l, k⟩ := trm_tl fun t ht => h t (List.mem_cons_of_mem _ ht)
    obtain ⟨hr, x, hx, en⟩ := h _ List.mem_cons_self
    obtain ⟨f, hf, ef⟩ := okr_rr hr
    have en : n = SX.S x := en
    have ef : r = frP f := ef
    subst en ef
    refine ⟨(x, f) :: tl, by rw [List.map_cons, e]; rfl, by rw [List.length_cons, l]; rfl, fun u hu => ?_⟩
    rcases List.mem_cons.mp hu with rfl | hu
    · exact ⟨hx, hf⟩
    · exact k u hu
theorem rr_bd : ∀ f ∈ RR, f.1 ≠ 0 ∧ BdF f := by
  have h : (RR.all fun f => decide (f.1 ≠ 0) && decide (0 < f.2) && decide (f.1.natAbs < 2 ^ 10) && decide (f.2.natAbs < 2 ^ 10)) = true := by decide +kernel
  intro f hf
  have := List.all_eq_true.mp h f hf
  simp only [Bool.and_eq_true, decide_eq_true_eq] at this
  exact ⟨this.1.1.1, Bn.mono (k := 10) ⟨this.1.2, this.2⟩ (by decide), this.1.1.2⟩
theorem red_tk {ws : List Nm} {tl : List It} {b : FR} (hl : tl.length = 1 ∨ tl.length = 2) (h : ∀ u ∈ tl, u.1 ∈ ws ∧ u.2 ∈ RR) (hb : b ∈ BB) : TkOk ws (redL tl, redF (scl (rts tl)) b) := by
  have key : (∀ u ∈ redL tl, u.1 ∈ ws ∧ smB u.2 = true) ∧ smB (redF (scl (rts tl)) b) = true := by
    match tl, hl, h with
    | [(x, f)], _, h =>
      have hx := h _ List.mem_cons_self
      have r := List.all_eq_true.mp red1 f hx.2
      rw [Bool.and_eq_true] at r
      refine ⟨fun u hu => ?_, List.all_eq_true.mp r.2 b hb⟩
      rw [List.mem_singleton.mp (show u ∈ [(x, redF (scl [f]) f)] from hu)]
      exact ⟨hx.1, r.1⟩
    | [(x, f), (y, g)], _, h =>
      have hx := h _ List.mem_cons_self
      have hy := h _ (List.mem_cons_of_mem _ List.mem_cons_self)
      have r := List.all_eq_true.mp (List.all_eq_true.mp red2 f hx.2) g hy.2
      rw [Bool.and_eq_true, Bool.and_eq_true] at r
      refine ⟨fun u hu => ?_, List.all_eq_true.mp r.2 b hb⟩
      rcases List.mem_cons.mp (show u ∈ [(x, redF (scl [f, g]) f), (y, redF (scl [f, g]) g)] from hu) with rfl | hu
      · exact ⟨hx.1, r.1.1⟩
      · rw [List.mem_singleton.mp hu]
        exact ⟨hy.1, r.1.2⟩
  refine ⟨?_, fun u hu => (key.1 u hu).1, fun u hu => smB_ok (key.1 u hu).2, smB_ok key.2⟩
  show (redL tl).length ≤ 2
  unfold redL
  rw [List.length_map]
  omega
theorem tk_neg {ws : List Nm} {t : Tie} (h : TkOk ws t) : TkOk ws (t.1.map (fun u => (u.1, negF u.2)), negF t.2) := by
  have bn : ∀ {f : FR}, Nf f ∧ Bn 40 f → Nf (negF f) ∧ Bn 40 (negF f) := fun {f} h => ⟨h.1.neg, ⟨by show (-f.1).natAbs < _; rw [Int.natAbs_neg]; exact h.2.1, h.2.2⟩⟩
  refine ⟨by show (t.1.map _).length ≤ 2; rw [List.length_map]; exact h.ln, fun u hu => ?_, fun u hu => ?_, bn h.bf⟩
  · obtain ⟨w, hw, rfl⟩ := List.mem_map.mp hu
    exact h.nm w hw
  · obtain ⟨w, hw, rfl⟩ := List.mem_map.mp hu
    exact bn (h.nf w hw)
section
variable {P : Program} {w : World} {K : PySem.W.Frag} {mg : Str → Option Value} {base : Heap} {fa : Nat → Addr} {fd : Nat → FuncData}
/-! ### drawn checks -/
def ngT (t : Tie) : Tie := (t.1.map (fun u => (u.1, negF u.2)), negF t.2)
theorem bb_bd : ∀ f ∈ BB, BdF f := by
  have h : (BB.all fun f => decide (0 < f.2) && decide (f.1.natAbs < 2 ^ 10) && decide (f.2.natAbs < 2 ^ 10)) = true := by decide +kernel
  intro f hf
  have := List.all_eq_true.mp h f hf
  simp only [Bool.and_eq_true, decide_eq_true_eq] at this
  exact ⟨Bn.mono (k := 10) ⟨this.1.2, this.2⟩ (by decide), this.1.1⟩
def spCheck : Sp := fun vs H Q _ => ∃ (a c p : Addr) (ws : List Nm), vs = [.ref a, .ref p] ∧ FeedOk H a c ∧ p ≠ a ∧ H p = some (.lst (ws.map vS)) ∧ ws ≠ [] ∧ ws.length ≤ 6 ∧ ws.Nodup ∧ (∀ x ∈ ws, nameB x = true ∧ x.length ≤ 7) ∧
  ∀ (v : V) (ts : List Tie) (H' : Hp), FeedOk H' a c → But a H H' → Dt a H' v (.tuple (ts.map tkD)) → ts.length ≤ 2 → (∀ t ∈ ts, TkOk ws t) → Q v H'
theorem ok_check (T : Txt K mg fa fd) : FnOk P w K mg base CX0 6 (fa 45) (fd 45) ["_law_feed_here", "_law_words_here"] spCheck := by
  refine T.F_check.ok sc_check (fun vs H Q E h => ?_) (fun cdv A outer s H vs Q E hr h => ?_)
  · obtain ⟨a, c, p, ws, rfl, _⟩ := h
    rfl
  · obtain ⟨a, c, p, ws, rfl, hF, npa, hp, hne, hl, hnd, hw, q⟩ := h
    refine ⟨_, (C8.pss_cut (ps_set (i := 2) sc_check.nd rfl (.inl rfl) (pe_call (ok_brief T) (hr.mono (by decide)) (by rfl) T.g_brief T.F_brief.kp T.b_brief .nil pass0 (pa_cons (pe_tup (pa_cons (pe_call (ok_terms T) (hr.mono (by decide)) (by rfl) T.g_terms T.F_terms.kp T.b_terms .nil pass0 (pa_cons (pv 0) (pa_cons (pv 1) (pa_cons pe_int pa_nil)))) (pa_cons (pe_call (ok_any T) (hr.mono (by decide)) (by rfl) T.g_any T.F_any.kp T.b_any .nil pass0 (pa_cons (pv 0) (pa_cons (pe_lst (pa_cons (pe_tup (pa_cons pe_int (pa_cons pe_int pa_nil))) (pa_cons (pe_tup (pa_cons pe_int (pa_cons pe_int pa_nil))) (pa_cons (pe_tup (pa_cons pe_int (pa_cons pe_int pa_nil))) (pa_cons (pe_tup (pa_cons (pe_un un_neg pe_int) (pa_cons pe_int pa_nil))) (pa_cons (pe_tup (pa_cons pe_int (pa_cons pe_int pa_nil))) pa_nil)))))) pa_nil))) pa_nil))) pa_nil)))
      (C8.pss_cut (ps_set (i := 3) sc_check.nd rfl (.inl rfl) (pe_tup (pa_cons (pe_callTy call_tuple_of (by rfl) T.m_tuple (by decide +kernel) (pa_cons (pe_lc (own := [("_law_name", 4), ("_law_rate_here", 5)]) (g := gTup K 2 (gCons (gName 4) (gCons (gName 5) gNil))) (tt := tYes) rfl sc_check.nd (pi_tup (pe_ix ix_tup (pv 2) pe_int (fun _ _ => rfl))) (blkOk_by (own := [("_law_name", 4), ("_law_rate_here", 5)]) (N := ["_law_feed_here", "_law_words_here", "_law_tie", "_law_back", "_law_name", "_law_rate_here"]) (sc := defScope s_check) (by decide +kernel)) (fun _ _ _ _ _ => pg_tup rfl (pgs_cons (pg_name (i := 4) sc_check.nd rfl (Or.inl rfl)) (pgs_cons (pg_name (i := 5) sc_check.nd rfl (Or.inl rfl)) pgs_nil))) (fun _ _ _ _ _ => pts_nil) (fun _ _ _ _ _ => (pe_tup (pa_cons (pv 4) (pa_cons (pe_call (ok_minus T) (hr.mono (by decide)) (by rfl) T.g_minus T.F_minus.kp T.b_minus .nil pass0 (pa_cons (pv 5) pa_nil)) pa_nil))))) pa_nil)) (pa_cons (pe_call (ok_minus T) (hr.mono (by decide)) (by rfl) T.g_minus T.F_minus.kp T.b_minus .nil pass0 (pa_cons (pe_ix ix_tup (pv 2) pe_int (fun _ _ => rfl)) pa_nil)) pa_nil))))
      (pss_one (ps_ret (pe_ifExp (pt_cmpR op_eq (pe_call (ok_draw T) (hr.mono (by decide)) (by rfl) T.g_draw T.F_draw.kp T.b_draw .nil pass0 (pa_cons (pv 0) (pa_cons pe_int pa_nil))) pe_int (nomark _)) (pe_tup (pa_cons (pv 2) (pa_cons (pv 3) pa_nil))) (pe_tup (pa_cons (pv 2) pa_nil))))))), ?_⟩
    refine ⟨fun σ G => FeedOk G a c ∧ But a H G ∧ ∃ v t, TkOk ws t ∧ Dt a G v (tkD t) ∧ σ = [some (.ref a), some (.ref p), some v, none, none, none], ?_, fun σ G hM => ?_⟩
    · refine ⟨_, rfl, _, rfl, a, c, p, ws, 2, rfl, hF, npa, hp, hne, hl, hnd, hw, fun v ts H1 hF1 b1 dt ok => ?_⟩
      refine ⟨_, rfl, (small_line (by decide : 2 ≤ 1000)), fun p1 n1 => ?_⟩
      obtain ⟨s1, d1⟩ := dnewT (z := a) n1 (.cons (.int 0 (by decide +kernel)) (.cons (.int 1 (by decide +kernel)) .nil))
      refine ⟨(small_line (by decide : 2 ≤ 1000)), fun p2 n2 => ?_⟩
      obtain ⟨s2, d2⟩ := dnewT (z := a) n2 (.cons (.int 1 (by decide +kernel)) (.cons (.int 1 (by decide +kernel)) .nil))
      refine ⟨(small_line (by decide : 2 ≤ 1000)), fun p3 n3 => ?_⟩
      obtain ⟨s3, d3⟩ := dnewT (z := a) n3 (.cons (.int 3 (by decide +kernel)) (.cons (.int 1 (by decide +kernel)) .nil))
      refine ⟨_, rfl, (small_line (by decide : 2 ≤ 1000)), fun p4 n4 => ?_⟩
      obtain ⟨s4, d4⟩ := dnewT (z := a) n4 (.cons (.int (-1) (by decide +kernel)) (.cons (.int 2 (by decide +kernel)) .nil))
      refine ⟨(small_line (by decide : 2 ≤ 1000)), fun p5 n5 => ?_⟩
      obtain ⟨s5, d5⟩ := dnewT (z := a) n5 (.cons (.int 5 (by decide +kernel)) (.cons (.int 1 (by decide +kernel)) .nil))
      refine ⟨(small_line (by decide : 5 ≤ 1000)), fun p6 n6 => ?_⟩
      obtain ⟨s6, all, hrw⟩ := drow (z := a) n6 (.cons (d1.same (s2.trans (s3.trans (s4.trans s5)))) (.cons (d2.same (s3.trans (s4.trans s5))) (.cons (d3.same (s4.trans s5)) (.cons (d4.same s5) (.cons d5 .nil)))))
      have sR := (s1.trans (s2.trans (s3.trans (s4.trans (s5.trans s6)))))
      refine ⟨a, c, p6, _, rfl, hF1.same sR, hrw, new_ne (hF1.same (s1.trans (s2.trans (s3.trans (s4.trans s5))))) n6, by show 0 < 5; decide, by show 5 ≤ 1000; decide, fun u H2 hu hF2 b2 => ?_⟩
      obtain ⟨d, hd, h⟩ := all.mem hu
      have h2 := h.but (hF1.same sR) b2
      have hd : d ∈ BB.map frP := hd
      obtain ⟨b, hb, rfl⟩ := List.mem_map.mp hd
      obtain ⟨tl, e, l, k⟩ := trm_tl ok.2.2
      have dv : Dt a H1 v (.tuple (tl.map tmP)) := by
        rw [← e]
        exact dt
      have dv2 := (dv.same sR).but (hF1.same sR) b2
      refine ⟨small_line (by show 2 ≤ 1000; decide), fun o no => ?_⟩
      obtain ⟨so, d0⟩ := dnewT (z := a) no (.cons dv2 (.cons h2 .nil))
      refine ⟨.ref o, tl, b, a, rfl, d0, ⟨by rw [l]; exact ok.1, fun t ht => ⟨(rr_bd _ (k t ht).2).1, (rr_bd _ (k t ht).2).2, (hw _ (k t ht).1).2⟩⟩, bb_bd b hb, fun v' H3 s3 d3 => ?_⟩
      exact ⟨(hF2.same so).same s3, b1.trans (((But.of (a := a) sR).trans b2).trans (But.of (so.trans s3))), v', (redL tl, redF (scl (rts tl)) b), red_tk (by rw [l]; exact ok.1) k hb, d3, rfl⟩
    obtain ⟨hF1, b1, v, t, tk, dv, rfl⟩ := hM
    refine ⟨fun σ G2 => FeedOk G2 a c ∧ But a H G2 ∧ ∃ u, Dt a G2 v (tkD t) ∧ Dt a G2 u (tkD (ngT t)) ∧ σ = [some (.ref a), some (.ref p), some v, some u, none, none], ?_, fun σ G2 hM => ?_⟩
    · obtain ⟨P0, pt, pb, xs, rfl, gp, gt, hxs, hpb⟩ := tie_inv9 dv
      have xl : xs.length = t.1.length := by
        have := hxs.len
        rw [List.length_map] at this
        exact this
      have tln := tk.ln
      have ibd : ∀ {f : FR}, Nf f ∧ Bn 40 f → Bd f.1 ∧ Bd f.2 := fun h => ⟨bd_bn h.2.1 (by decide), bd_bn h.2.2 (by decide)⟩
      have ngk := tk_neg tk
      refine ⟨_, rfl, P0, _, _, _, rfl, rfl, SqT.of gp, rfl, pt, rfl, ⟨_, SqT.of gt⟩, fun D nD => ?_⟩
      refine lc_tup (K := K) (a := pt) (xs := xs) (fun i G2 => Same G G2 ∧ ∃ vs, G2 D = some (.lst vs) ∧ DtAll a G2 vs (((ngT t).1.take i).map tmP)) ⟨same_upd nD, [], upd_same, .nil⟩ (fun i G2 _ hq => SqT.of (hq.1 _ _ gt)) (fun i x G2 hx hq => ?_) (fun G2 hq => ?_)
      · obtain ⟨sG, vs, hD, hvs⟩ := hq
        obtain ⟨dd, hd, hdt⟩ := DtAll.at i hxs hx
        rw [List.getElem?_map] at hd
        obtain ⟨u, he, rfl⟩ := Option.map_eq_some_iff.mp hd
        obtain ⟨pp, pr, rfl, hpp, hpr⟩ := trm_inv9 hdt
        have hu := List.mem_of_getElem? he
        have vl : vs.length < sizeLine := by
          have e1 := hvs.len
          rw [List.length_map, List.length_take] at e1
          have : (ngT t).1.length = t.1.length := List.length_map ..
          exact small1000 (by omega)
        have nb := ibd (ngk.nf (u.1, negF u.2) (List.mem_map.mpr ⟨u, hu, rfl⟩))
        refine ⟨pp, _, rfl, .inl (.inl (sG _ _ hpp)), rfl, _, _, rfl, _, _, rfl, rfl, rfl, _, rfl, _, rfl, pr, u.2, rfl, SqT.of (sG _ _ hpr), fun e ne => ?_⟩
        obtain ⟨se, de⟩ := dnewT (z := a) ne (.cons (.int (negF u.2).1 nb.1) (.cons (.int (negF u.2).2 nb.2) .nil))
        refine ⟨two_line, fun e2 ne2 => ?_⟩
        obtain ⟨se2, de2⟩ := dnewT (z := a) ne2 (.cons (.str (SX.S u.1) (slen (hw _ (tk.nm u hu)).2)) (.cons de .nil))
        have hD2 := (se.trans se2) _ _ hD
        refine ⟨vs, hD2, vl, fun b o e => (by rw [upd_ne (ne_of_none e nD)]; exact (se.trans se2) _ _ (sG _ _ e)), vs ++ [.ref e2], upd_same, ?_⟩
        have er : (ngT t).1[i]? = some (u.1, negF u.2) := by
          show (t.1.map _)[i]? = _
          rw [List.getElem?_map, he]
          rfl
        rw [List.take_add_one, er, List.map_append]
        refine DtAll.snoc (hvs.tups ((TT.of (se.trans se2)).trans (TT.upd hD2)) _ _ (noLs_tm4 _)) ?_
        exact Dt.tups (TT.upd hD2) _ _ rfl de2
      · obtain ⟨sG, vs, hD, hvs⟩ := hq
        have : (ngT t).1.length = t.1.length := List.length_map ..
        rw [xl, ← this, List.take_length] at hvs
        refine ⟨D, vs, rfl, .inl ⟨SqL.of hD, fun l nl => ?_⟩⟩
        obtain ⟨sl, dl⟩ := dnewT (z := a) nl hvs
        have nb := ibd ngk.bf
        have s5 := sG.trans sl
        refine ⟨_, rfl, P0, _, _, _, rfl, rfl, SqT.of (s5 _ _ gp), rfl, pb, t.2, rfl, SqT.of (s5 _ _ hpb), fun e ne => ?_⟩
        obtain ⟨se, de⟩ := dnewT (z := a) ne (.cons (.int (negF t.2).1 nb.1) (.cons (.int (negF t.2).2 nb.2) .nil))
        refine ⟨two_line, fun o no => ?_⟩
        obtain ⟨so, d0⟩ := dnewT (z := a) no (.cons (dl.same se) (.cons de .nil))
        have s6 := s5.trans (se.trans so)
        exact ⟨hF1.same s6, b1.trans (But.of s6), .ref o, dv.same s6, d0, rfl⟩
    obtain ⟨hF2, b2, u, dv2, du2, rfl⟩ := hM
    refine ⟨_, rfl, a, c, _, rfl, hF2, mid_of (by decide) (by decide), fun r H3 _ _ hF3 b3 => ⟨rfl, _, rfl, ite2 (fun e => ?_) (fun e => ?_)⟩⟩
    · refine ⟨_, rfl, _, rfl, small_line (by show 2 ≤ 1000; decide), fun o no => ?_⟩
      obtain ⟨so, d0⟩ := dnewT (z := a) no (.cons (dv2.but hF2 b3) (.cons (du2.but hF2 b3) .nil))
      refine q (.ref o) [t, ngT t] _ (hF3.same so) (b2.trans (b3.trans (But.of so))) d0 (by show 2 ≤ 2; decide) fun t2 h2 => ?_
      rcases List.mem_cons.mp h2 with rfl | h2
      · exact tk
      · rw [List.mem_singleton.mp h2]
        exact tk_neg tk
    · refine ⟨_, rfl, small_line (by show 1 ≤ 1000; decide), fun o no => ?_⟩
      obtain ⟨so, d0⟩ := dnewT (z := a) no (.cons (dv2.but hF2 b3) .nil)
      refine q (.ref o) [t] _ (hF3.same so) (b2.trans (b3.trans (But.of so))) d0 (by show 1 ≤ 2; decide) fun t2 h2 => ?_
      rw [List.mem_singleton.mp h2]
      exact tk
end
section
variable {P : Program} {w : World} {K : PySem.W.Frag} {mg : Str → Option Value} {base : Heap} {fa : Nat → Addr} {fd : Nat → FuncData}
/-! ### drawn programs -/
def spPg (n : Nat) : Sp := fun vs H Q _ => ∃ (a c p : Addr) (ws : List Nm) (m : Nat), vs = [.ref a, .ref p, .int (n : Int), .int (m : Int)] ∧ FeedOk H a c ∧ p ≠ a ∧ H p = some (.lst (ws.map vS)) ∧ ws ≠ [] ∧ ws.length ≤ 6 ∧ ws.Nodup ∧ (∀ x ∈ ws, nameB x = true ∧ x.length ≤ 7) ∧ m ≤ 3 ∧ n ≤ 2 ∧
  ∀ (v : V) (pg : Pg) (H' : Hp), FeedOk H' a c → But a H H' → Dt a H' v (.tuple (pgL pg)) → PgOk ws pg → dep pg ≤ n → cnt pg ≤ m * 3 ^ n → lnP pg ≤ m → Q v H'
def HB : List FR := [(0, 1), (1, 1), (0, 1), (-1, 1)]
theorem hb_dm : ∀ f ∈ HB, Dm 2 1 f ∧ Bn 10 f := by
  intro c hc
  simp only [HB, List.mem_cons, List.not_mem_nil, or_false] at hc
  rcases hc with rfl | rfl | rfl | rfl <;> (unfold Dm Nf Bn; decide +kernel)
def spP : Nat → Sp
  | 0 => fun _ _ _ _ => False
  | n + 1 => spPg n
theorem prog_step (T : Txt K mg fa fd) (n : Nat) (G : FnOk P w K mg base CX0 (n + 7) (fa 46) (fd 46) ["_law_feed_here", "_law_words_here", "_law_depth", "_law_many"] (spP n)) : FnOk P w K mg base CX0 (n + 8) (fa 46) (fd 46) ["_law_feed_here", "_law_words_here", "_law_depth", "_law_many"] (spP (n + 1)) := by
  refine T.F_program.ok sc_program (fun vs H Q E h => ?_) (fun cdv A outer s H vs Q E hr h => ?_)
  · obtain ⟨a, c, p, ws, m, rfl, _⟩ := h
    rfl
  · obtain ⟨a, c, p, ws, m, rfl, hF, npa, hp, hne, hl, hnd, hw, hm, hn, q⟩ := h
    refine ⟨_, (C8.pss_cut (ps_set (i := 4) sc_program.nd rfl (.inl rfl) (pe_lst pa_nil))
      (C8.pss_cut (ps_for PassesOwn.never rfl (pi_range1 (by rfl) T.m_range (pa_cons (pe_call (ok_draw T) (hr.mono (by omega)) (by rfl) T.g_draw T.F_draw.kp T.b_draw .nil pass0 (pa_cons (pv 0) (pa_cons (pe_op op_add (pv 3) pe_int) pa_nil))) pa_nil)) (pg_name (i := 5) sc_program.nd rfl (.inl rfl)) (C8.pss_cut (ps_set (i := 6) sc_program.nd rfl (.inl rfl) (pe_call (ok_draw T) (hr.mono (by omega)) (by rfl) T.g_draw T.F_draw.kp T.b_draw .nil pass0 (pa_cons (pv 0) (pa_cons (pe_ifExp (pt_cmpR op_gt (pv 2) pe_int (nomark _)) pe_int pe_int) pa_nil))))
      (pss_one (ps_if (pt_cmpR op_lt (pv 6) pe_int (nomark _)) (C8.pss_cut (ps_set (i := 7) sc_program.nd rfl (.inl rfl) (pe_call (ok_form T) (hr.mono (by omega)) (by rfl) T.g_form T.F_form.kp T.b_form .nil pass0 (pa_cons (pv 0) (pa_cons (pv 1) pa_nil))))
      (C8.pss_cut (ps_set (i := 8) sc_program.nd rfl (.inl rfl) (pe_tup (pa_cons (pe_ix ix_tup (pv 7) pe_int (fun _ _ => rfl)) (pa_cons (pe_ix ix_tup (pv 7) pe_int (fun _ _ => rfl)) (pa_cons (pe_call (ok_plus T) (hr.mono (by omega)) (by rfl) T.g_plus T.F_plus.kp T.b_plus .nil pass0 (pa_cons (pe_ix ix_tup (pv 7) pe_int (fun _ _ => rfl)) (pa_cons (pe_call (ok_any T) (hr.mono (by omega)) (by rfl) T.g_any T.F_any.kp T.b_any .nil pass0 (pa_cons (pv 0) (pa_cons (pe_lst (pa_cons (pe_tup (pa_cons pe_int (pa_cons pe_int pa_nil))) (pa_cons (pe_tup (pa_cons pe_int (pa_cons pe_int pa_nil))) (pa_cons (pe_tup (pa_cons pe_int (pa_cons pe_int pa_nil))) (pa_cons (pe_tup (pa_cons (pe_un un_neg pe_int) (pa_cons pe_int pa_nil))) pa_nil))))) pa_nil))) pa_nil))) pa_nil)))))
      (pss_one (ps_expr (pe_bm PySem.F.plainAttrs_list PySem.F.slot_list_append PySem.F.type_list_append mt_append (pv 4) (pa_cons (pe_tup (pa_cons pe_str (pa_cons (pe_call (ok_any T) (hr.mono (by omega)) (by rfl) T.g_any T.F_any.kp T.b_any .nil pass0 (pa_cons (pv 0) (pa_cons (pv 1) pa_nil))) (pa_cons (pv 7) (pa_cons (pe_ifExp (pt_cmpR op_gt (pe_call (ok_draw T) (hr.mono (by omega)) (by rfl) T.g_draw T.F_draw.kp T.b_draw .nil pass0 (pa_cons (pv 0) (pa_cons pe_int pa_nil))) pe_int (nomark _)) (pv 8) (pe_call (ok_form T) (hr.mono (by omega)) (by rfl) T.g_form T.F_form.kp T.b_form .nil pass0 (pa_cons (pv 0) (pa_cons (pv 1) pa_nil)))) pa_nil))))) pa_nil)))))) (pss_one (ps_if (pt_cmpR op_eq (pv 6) pe_int (nomark _)) (pss_one (ps_expr (pe_bm PySem.F.plainAttrs_list PySem.F.slot_list_append PySem.F.type_list_append mt_append (pv 4) (pa_cons (pe_tup (pa_cons pe_str (pa_cons (pe_call (ok_any T) (hr.mono (by omega)) (by rfl) T.g_any T.F_any.kp T.b_any .nil pass0 (pa_cons (pv 0) (pa_cons (pv 1) pa_nil))) pa_nil))) pa_nil)))) (pss_one (ps_if (pt_cmpR op_eq (pv 6) pe_int (nomark _)) (pss_one (ps_expr (pe_bm PySem.F.plainAttrs_list PySem.F.slot_list_append PySem.F.type_list_append mt_append (pv 4) (pa_cons (pe_tup (pa_cons pe_str (pa_cons (pe_call (ok_check T) (hr.mono (by omega)) (by rfl) T.g_check T.F_check.kp T.b_check .nil pass0 (pa_cons (pv 0) (pa_cons (pv 1) pa_nil))) pa_nil))) pa_nil)))) (pss_one (ps_if (pt_cmpR op_eq (pv 6) pe_int (nomark _)) (pss_one (ps_expr (pe_bm PySem.F.plainAttrs_list PySem.F.slot_list_append PySem.F.type_list_append mt_append (pv 4) (pa_cons (pe_tup (pa_cons pe_str (pa_cons (pe_call (ok_draw T) (hr.mono (by omega)) (by rfl) T.g_draw T.F_draw.kp T.b_draw .nil pass0 (pa_cons (pv 0) (pa_cons pe_int pa_nil))) (pa_cons (pe_call G (hr.mono (by omega)) (by rfl) T.g_program T.F_program.kp T.b_program .nil pass0 (pa_cons (pv 0) (pa_cons (pv 1) (pa_cons (pe_op op_sub (pv 2) pe_int) (pa_cons pe_int pa_nil))))) pa_nil)))) pa_nil)))) (pss_one (ps_expr (pe_bm PySem.F.plainAttrs_list PySem.F.slot_list_append PySem.F.type_list_append mt_append (pv 4) (pa_cons (pe_tup (pa_cons pe_str (pa_cons (pe_call G (hr.mono (by omega)) (by rfl) T.g_program T.F_program.kp T.b_program .nil pass0 (pa_cons (pv 0) (pa_cons (pv 1) (pa_cons (pe_op op_sub (pv 2) pe_int) (pa_cons pe_int pa_nil))))) (pa_cons (pe_call G (hr.mono (by omega)) (by rfl) T.g_program T.F_program.kp T.b_program .nil pass0 (pa_cons (pv 0) (pa_cons (pv 1) (pa_cons (pe_op op_sub (pv 2) pe_int) (pa_cons pe_int pa_nil))))) pa_nil)))) pa_nil))))))))))))))
      (pss_one (ps_ret (pe_callTy call_tuple_of (by rfl) T.m_tuple (by decide +kernel) (pa_cons (pv 4) pa_nil)))))), ?_⟩
    refine ⟨fun σ G1 => ∃ D, H D = none ∧ G1 = upd H D (.lst []) ∧ σ = [some (.ref a), some (.ref p), some (.int (n : Int)), some (.int (m : Int)), some (.ref D), none, none, none, none], ?_, fun σ G1 hM => ?_⟩
    · exact ⟨Nat.zero_le _, fun D nD => ⟨D, nD, rfl, rfl⟩⟩
    obtain ⟨D, nD, rfl, rfl⟩ := hM
    have nDa := new_ne hF nD
    have nDc := new_nc hF nD
    have nDp : p ≠ D := ne_of_none hp nD
    refine ⟨fun σ G1 => FeedOk G1 a c ∧ But a H G1 ∧ ∃ vs pg y5 y6 y7 y8, G1 D = some (.lst vs) ∧ DtAll a G1 vs (pgL pg) ∧ PgOk ws pg ∧ dep pg ≤ n ∧ cnt pg ≤ m * 3 ^ n ∧ lnP pg ≤ m ∧ σ = [some (.ref a), some (.ref p), some (.int (n : Int)), some (.int (m : Int)), some (.ref D), y5, y6, y7, y8], ?_, fun σ G1 hM => ?_⟩
    · refine ⟨_, rfl, _, rfl, _, _, rfl, rfl, a, c, _, rfl, hF.new nD, mid_of (by omega) (by omega), fun r H2 r0 r1 hF2 b2 => ?_⟩
      obtain ⟨r, rfl⟩ := Int.eq_ofNat_of_zero_le r0
      have rm : r ≤ m := by omega
      refine ⟨_, rfl, by omega, by omega, ?_⟩
      rw [Int.toNat_natCast]
      have sD := same_upd (o := HO.lst []) nD
      refine for_range (n := r) (fun i σ G1 => FeedOk G1 a c ∧ But a H G1 ∧ ∃ vs pg y5 y6 y7 y8, G1 D = some (.lst vs) ∧ DtAll a G1 vs (pgL pg) ∧ PgOk ws pg ∧ dep pg ≤ n ∧ cnt pg ≤ i * 3 ^ n ∧ lnP pg = i ∧ σ = [some (.ref a), some (.ref p), some (.int (n : Int)), some (.int (m : Int)), some (.ref D), y5, y6, y7, y8])
        ⟨hF2, (But.of sD).trans b2, [], .nil, _, _, _, _, b2 _ _ nDa upd_same, .nil, trivial, Nat.zero_le _, Nat.zero_le _, rfl, rfl⟩ (fun i σ G1 hi hq => ?_) (fun σ G1 hq => ?_)
      · obtain ⟨hF1, b1, vs, pg, y5, y6, y7, y8, hD, hvs, ok, hd, hc, hln, rfl⟩ := hq
        have vl : vs.length < sizeLine := by
          have e1 := hvs.len
          rw [pgL_len] at e1
          exact small1000 (by omega)
        have app : ∀ (G5 : Hp) (v : V) (pg1 : Pg) (y5 y6 y7 y8 : Option V), FeedOk G5 a c → But a G1 G5 → (∀ d, pgL pg1 = [d] → Dt a G5 v d) → lnP pg1 = 1 → PgOk ws pg1 → dep pg1 ≤ n → cnt pg1 ≤ 3 ^ n →
            G5 D = some (.lst vs) ∧ ∀ σ, σ = [some (.ref a), some (.ref p), some (.int (n : Int)), some (.int (m : Int)), some (.ref D), y5, y6, y7, y8] → FeedOk (upd G5 D (.lst (vs ++ [v]))) a c ∧ But a H (upd G5 D (.lst (vs ++ [v]))) ∧ ∃ vs' pg' y5 y6 y7 y8, upd G5 D (.lst (vs ++ [v])) D = some (.lst vs') ∧ DtAll a (upd G5 D (.lst (vs ++ [v]))) vs' (pgL pg') ∧ PgOk ws pg' ∧ dep pg' ≤ n ∧ cnt pg' ≤ (i + 1) * 3 ^ n ∧ lnP pg' = i + 1 ∧ σ = [some (.ref a), some (.ref p), some (.int (n : Int)), some (.int (m : Int)), some (.ref D), y5, y6, y7, y8] := fun G5 v pg1 y5 y6 y7 y8 hF5 b5 hv l1 o1 d1 c1 => by
          have hD5 := b5 _ _ nDa hD
          refine ⟨hD5, fun σ hσ => ⟨hF5.put nDa nDc, (b1.trans b5).updN nD, vs ++ [v], appP pg pg1, y5, y6, y7, y8, upd_same, ?_, ok_app ok o1, ?_, ?_, ?_, hσ⟩⟩
          · obtain ⟨d, hd⟩ : ∃ d, pgL pg1 = [d] := by
              have := pgL_len pg1
              rw [l1] at this
              exact List.length_eq_one_iff.mp this
            rw [pgL_app, hd]
            have n1 := noLs_pg pg1
            rw [hd] at n1
            have n1 : (noL d && true) = true := n1
            rw [Bool.and_true] at n1
            have tt := (TT.but hF1 b5).trans (TT.upd (zs := vs ++ [v]) hD5)
            exact DtAll.snoc (hvs.tups tt _ _ (noLs_pg pg)) ((hv d hd).tups (TT.upd hD5) _ _ n1)
          · rw [dep_app]
            omega
          · rw [cnt_app, Nat.succ_mul]
            omega
          · rw [ln_app, hln, l1]
        have hp1 := b1 _ _ npa hp
        refine ⟨fun σ G2 => FeedOk G2 a c ∧ But a G1 G2 ∧ ∃ w5 w : Int, 0 ≤ w ∧ (w < 4 ∨ 0 < n) ∧ σ = [some (.ref a), some (.ref p), some (.int (n : Int)), some (.int (m : Int)), some (.ref D), some (.int w5), some (.int w), y7, y8], ?_, fun σ G2 hM => ?_⟩
        · by_cases n0 : 0 < n
          · refine ⟨_, rfl, _, rfl, _, _, rfl, rfl, _, rfl, iteT' (decide_eq_true (by omega)) ⟨a, c, _, rfl, hF1, mid_of (by decide) (by decide), fun w H2 w0 w1 hF2 b2 => ?_⟩⟩
            exact ⟨hF2, b2, _, w, w0, .inr n0, rfl⟩
          · refine ⟨_, rfl, _, rfl, _, _, rfl, rfl, _, rfl, iteF' (decide_eq_false (by omega)) ⟨a, c, _, rfl, hF1, mid_of (by decide) (by decide), fun w H2 w0 w1 hF2 b2 => ?_⟩⟩
            exact ⟨hF2, b2, _, w, w0, .inl w1, rfl⟩
        obtain ⟨hF2, b2, w5, w, w0, w1, rfl⟩ := hM
        have hp2 := b2 _ _ npa hp1
        have wl : 0 < (ws.map vS).length := by
          rw [List.length_map]
          cases ws with
          | nil => exact absurd rfl hne
          | cons _ _ => simp
        have wm : (ws.map vS).length ≤ 1000 := by
          rw [List.length_map]
          omega
        refine ⟨_, rfl, _, _, rfl, rfl, _, rfl, ite2 (fun e1 => ?_) (fun e1 => ?_)⟩
        · -- set
          refine ⟨fun σ G3 => FeedOk G3 a c ∧ But a G1 G3 ∧ ∃ v f, Dt a G3 v (fmD f) ∧ FmOk ws f ∧ (f.num.1.natAbs : Int) ≤ 3 * f.num.2 ∧ σ = [some (.ref a), some (.ref p), some (.int (n : Int)), some (.int (m : Int)), some (.ref D), some (.int w5), some (.int w), some v, y8], ?_, fun σ G3 hM => ?_⟩
          · exact ⟨_, rfl, _, rfl, a, c, p, ws, rfl, hF2, npa, hp2, hne, hl, hw, fun v f H3 hF3 b3 dv of nf => ⟨hF3, b2.trans b3, v, f, dv, of, nf, rfl⟩⟩
          obtain ⟨hF3, b3, v, f, dv, of, nf, rfl⟩ := hM
          obtain ⟨P0, pr, pn, rfl, gp, hpr, hpn⟩ := form_inv dv
          refine ⟨fun σ G4 => FeedOk G4 a c ∧ But a G1 G4 ∧ ∃ u g, Dt a G4 (.ref P0) (fmD f) ∧ Dt a G4 u (fmD g) ∧ FmOk ws g ∧ σ = [some (.ref a), some (.ref p), some (.int (n : Int)), some (.int (m : Int)), some (.ref D), some (.int w5), some (.int w), some (.ref P0), some u], ?_, fun σ G4 hM => ?_⟩
          · skip
            refine ⟨_, rfl, P0, _, _, _, rfl, rfl, SqT.of gp, rfl, _, rfl, P0, _, _, _, rfl, rfl, SqT.of gp, rfl, _, rfl, P0, _, _, _, rfl, rfl, SqT.of gp, rfl, _, rfl, (small_line (by decide : 2 ≤ 1000)), fun p1 n1 => ?_⟩
            obtain ⟨s1, d1⟩ := dnewT (z := a) n1 (.cons (.int 0 (by decide +kernel)) (.cons (.int 1 (by decide +kernel)) .nil))
            refine ⟨(small_line (by decide : 2 ≤ 1000)), fun p2 n2 => ?_⟩
            obtain ⟨s2, d2⟩ := dnewT (z := a) n2 (.cons (.int 1 (by decide +kernel)) (.cons (.int 1 (by decide +kernel)) .nil))
            refine ⟨(small_line (by decide : 2 ≤ 1000)), fun p3 n3 => ?_⟩
            obtain ⟨s3, d3⟩ := dnewT (z := a) n3 (.cons (.int 0 (by decide +kernel)) (.cons (.int 1 (by decide +kernel)) .nil))
            refine ⟨_, rfl, (small_line (by decide : 2 ≤ 1000)), fun p4 n4 => ?_⟩
            obtain ⟨s4, d4⟩ := dnewT (z := a) n4 (.cons (.int (-1) (by decide +kernel)) (.cons (.int 1 (by decide +kernel)) .nil))
            refine ⟨(small_line (by decide : 4 ≤ 1000)), fun p5 n5 => ?_⟩
            obtain ⟨s5, all, hrw⟩ := drow (z := a) n5 (.cons (d1.same (s2.trans (s3.trans s4))) (.cons (d2.same (s3.trans s4)) (.cons (d3.same s4) (.cons d4 .nil))))
            have sR := (s1.trans (s2.trans (s3.trans (s4.trans s5))))
            refine ⟨a, c, p5, _, rfl, hF3.same sR, hrw, new_ne (hF3.same (s1.trans (s2.trans (s3.trans s4)))) n5, by show 0 < 4; decide, by show 4 ≤ 1000; decide, fun u H4 hu hF4 b4 => ?_⟩
            obtain ⟨d, hd, h⟩ := all.mem hu
            have h2 := h.but (hF3.same sR) b4
            have hd : d ∈ HB.map frP := hd
            obtain ⟨b, hb, rfl⟩ := List.mem_map.mp hd
            obtain ⟨pb, rfl, hpb⟩ := dt_fr h2
            have bb := (But.of (a := a) sR).trans b4
            have dv4 := (dv.same sR).but (hF3.same sR) b4
            have tt := TT.but hF3 bb
            have hbd := hb_dm b hb
            have nb := (fm_bn of).add hbd.2 of.nf.1 hbd.1.1.1
            have dm : Dm 2 (3 + 1) (addL f.num b) := Dm.add ⟨of.nf, of.dv, nf⟩ hbd.1
            have rb := (rt_dm _ of.rt).2
            have nl7 : f.name.length ≤ 7 := by
              by_cases hz : f.rate = (0, 1)
              · rw [of.z.mp hz]
                exact Nat.zero_le _
              · exact (hw _ (of.nm hz)).2
            refine ⟨pn, pb, f.num, b, rfl, SqT.of (tt _ _ hpn), SqT.of hpb, of.nf.1, hbd.1.1.1, bn2 (fm_bn of) (by decide), bn2 hbd.2 (by decide), fun e ne => ?_⟩
            obtain ⟨se, de⟩ := dnewT (z := a) ne (.cons (.int (addL f.num b).1 (bd_bn nb.1 (by decide))) (.cons (.int (addL f.num b).2 (bd_bn nb.2 (by decide))) .nil))
            have dr : Dt a H4 (.ref pr) (frP f.rate) := .tup (tt _ _ hpr) (.cons (.int _ (bd_bn rb.1 (by decide))) (.cons (.int _ (bd_bn rb.2 (by decide))) .nil))
            refine ⟨small_line (by show 3 ≤ 1000; decide), fun o no => ?_⟩
            obtain ⟨so, d0⟩ := dnewT (z := a) no (.cons (dr.same se) (.cons (.str (SX.S f.name) (slen nl7)) (.cons de .nil)))
            exact ⟨(hF4.same se).same so, (b3.trans bb).trans (But.of (se.trans so)), .ref o, ⟨f.rate, f.name, addL f.num b⟩, dv4.same (se.trans so), d0, ⟨of.rt, of.nm, of.z, dm.1, dm.2.1, dm.2.2⟩, rfl⟩
          obtain ⟨hF4, b4, u, g, dv4, du4, og, rfl⟩ := hM
          have hp4 := b4 _ _ npa hp1
          have hD4 := b4 _ _ nDa hD
          refine ⟨_, rfl, .inl ⟨rfl, _, SqL.of hD4⟩, _, rfl, _, rfl, a, c, p, _, rfl, hF4, hp4, npa, wl, wm, fun v5 H5 hv5 hF5 b5 => ?_⟩
          obtain ⟨x, hx, rfl⟩ := List.mem_map.mp hv5
          have hp5 := b5 _ _ npa hp4
          have c1 : cnt (.set x f g .nil) ≤ 3 ^ n := Nat.pow_pos (by decide)
          refine ⟨_, rfl, _, rfl, a, c, _, rfl, hF5, mid_of (by decide) (by decide), fun r6 H6 _ _ hF6 b6 => ⟨_, _, rfl, rfl, _, rfl, ite2 (fun e9 => ?_) (fun e9 => ?_)⟩⟩
          · refine ⟨_, rfl, small_line (by show 4 ≤ 1000; decide), fun o no => ?_⟩
            obtain ⟨so, d0⟩ := dnewT (z := a) no (.cons (.str (Str.ofString "set") (by decide +kernel)) (.cons (.str (SX.S x) (slen (hw x hx).2)) (.cons ((dv4.but hF4 b5).but hF5 b6) (.cons ((du4.but hF4 b5).but hF5 b6) .nil))))
            have A := app _ (.ref o) (.set x f g .nil) (some (.int w5)) (some (.int w)) (some (.ref P0)) (some u) (hF6.same so) (b4.trans (b5.trans (b6.trans (But.of so)))) (fun d hd => by cases hd; exact d0) rfl ⟨⟨hx, of, og⟩, trivial⟩ (Nat.zero_le _) c1
            exact ⟨D, vs, .ref o, rfl, rfl, A.1, vl, A.2 _ rfl⟩
          · refine ⟨_, rfl, _, rfl, a, c, p, ws, rfl, hF6, npa, b6 _ _ npa hp5, hne, hl, hw, fun v7 g7 H7 hF7 b7 d7 o7 _ => ?_⟩
            refine ⟨small_line (by show 4 ≤ 1000; decide), fun o no => ?_⟩
            obtain ⟨so, d0⟩ := dnewT (z := a) no (.cons (.str (Str.ofString "set") (by decide +kernel)) (.cons (.str (SX.S x) (slen (hw x hx).2)) (.cons (((dv4.but hF4 b5).but hF5 b6).but hF6 b7) (.cons d7 .nil))))
            have A := app _ (.ref o) (.set x f g7 .nil) (some (.int w5)) (some (.int w)) (some (.ref P0)) (some u) (hF7.same so) (b4.trans (b5.trans (b6.trans (b7.trans (But.of so))))) (fun d hd => by cases hd; exact d0) rfl ⟨⟨hx, of, o7⟩, trivial⟩ (Nat.zero_le _) c1
            exact ⟨D, vs, .ref o, rfl, rfl, A.1, vl, A.2 _ rfl⟩
        refine ⟨_, rfl, rfl, _, rfl, ite2 (fun e => ?_) (fun e => ?_)⟩
        · -- any
          have hD2 := b2 _ _ nDa hD
          refine ⟨_, rfl, .inl ⟨rfl, _, SqL.of hD2⟩, _, rfl, _, rfl, a, c, p, _, rfl, hF2, hp2, npa, wl, wm, fun v H3 hv3 hF3 b3 => ?_⟩
          obtain ⟨x, hx, rfl⟩ := List.mem_map.mp hv3
          refine ⟨small_line (by show 2 ≤ 1000; decide), fun o no => ?_⟩
          obtain ⟨so, d0⟩ := dnewT (z := a) no (.cons (.str (Str.ofString "any") (by decide +kernel)) (.cons (.str (SX.S x) (slen (hw x hx).2)) .nil))
          have A := app _ (.ref o) (.any x .nil) (some (.int w5)) (some (.int w)) y7 y8 (hF3.same so) (b2.trans (b3.trans (But.of so))) (fun d hd => by cases hd; exact d0) rfl ⟨hx, trivial⟩ (Nat.zero_le _) (Nat.zero_le _)
          exact ⟨D, vs, .ref o, rfl, rfl, A.1, vl, A.2 _ rfl⟩
        have hD2 := b2 _ _ nDa hD
        refine ⟨_, rfl, rfl, _, rfl, ite2 (fun e3 => ?_) (fun e3 => ?_)⟩
        · -- check
          refine ⟨_, rfl, .inl ⟨rfl, _, SqL.of hD2⟩, _, rfl, _, rfl, a, c, p, ws, rfl, hF2, npa, hp2, hne, hl, hnd, hw, fun v ts H3 hF3 b3 dt l2 tk => ?_⟩
          refine ⟨small_line (by show 2 ≤ 1000; decide), fun o no => ?_⟩
          obtain ⟨so, d0⟩ := dnewT (z := a) no (.cons (.str (Str.ofString "check") (by decide +kernel)) (.cons dt .nil))
          have A := app _ (.ref o) (.chk ts .nil) (some (.int w5)) (some (.int w)) y7 y8 (hF3.same so) (b2.trans (b3.trans (But.of so))) (fun d hd => by cases hd; exact d0) rfl ⟨⟨l2, tk⟩, trivial⟩ (Nat.zero_le _) (Nat.zero_le _)
          exact ⟨D, vs, .ref o, rfl, rfl, A.1, vl, A.2 _ rfl⟩
        have hw3 : w ≠ 3 := fun z => e3 (decide_eq_true (by rw [z]))
        have hw2 : w ≠ 2 := fun z => e (by rw [z]; rfl)
        have n0 : 0 < n := by
          rcases w1 with h | h
          · have : ¬ w < 2 := fun z => e1 (decide_eq_true z)
            omega
          · exact h
        obtain ⟨n, rfl⟩ : ∃ n', n = n' + 1 := ⟨n - 1, by omega⟩
        have p3 : (3 : Nat) ^ (n + 1) = 3 * 3 ^ n := by rw [Nat.pow_succ, Nat.mul_comm]
        refine ⟨_, rfl, rfl, _, rfl, ite2 (fun e4 => ?_) (fun e4 => ?_)⟩
        · -- repeat
          refine ⟨_, rfl, .inl ⟨rfl, _, SqL.of hD2⟩, _, rfl, a, c, _, rfl, hF2, mid_of (by decide) (by decide), fun r2 H3 r20 r21 hF3 b3 => ?_⟩
          obtain ⟨r2, rfl⟩ := Int.eq_ofNat_of_zero_le r20
          have hp3 := b3 _ _ npa hp2
          refine ⟨_, rfl, _, rfl, _, rfl, _, _, rfl, rfl, a, c, p, ws, 1, ?_, hF3, npa, hp3, hne, hl, hnd, hw, by decide, by omega, fun v pg1 H4 hF4 b4 dt o1 d1 c1 l1 => ?_⟩
          · show [V.ref a, .ref p, .int (((n + 1 : Nat) : Int) - 1), .int 1] = _
            rw [show (((n + 1 : Nat) : Int) - 1) = (n : Int) by omega]
            rfl
          refine ⟨small_line (by show 3 ≤ 1000; decide), fun o no => ?_⟩
          obtain ⟨so, d0⟩ := dnewT (z := a) no (.cons (.str (Str.ofString "repeat") (by decide +kernel)) (.cons (.int (r2 : Int) (Nat.lt_of_le_of_lt (Nat.log2_le_self _) (by omega))) (.cons dt .nil)))
          have A := app _ (.ref o) (.rep r2 pg1 .nil) (some (.int w5)) (some (.int w)) y7 y8 (hF4.same so) (b2.trans (b3.trans (b4.trans (But.of so)))) (fun d hd => by cases hd; exact d0) rfl ⟨⟨by omega, by omega, o1⟩, trivial⟩ (by show max (dep pg1 + 1) 0 ≤ n + 1; omega) (by
            show r2 * cnt pg1 + 0 ≤ 3 ^ (n + 1)
            have := Nat.mul_le_mul (show r2 ≤ 3 by omega) (show cnt pg1 ≤ 3 ^ n by omega)
            omega)
          exact ⟨D, vs, .ref o, rfl, rfl, A.1, vl, A.2 _ rfl⟩
        · -- either
          refine ⟨_, rfl, .inl ⟨rfl, _, SqL.of hD2⟩, _, rfl, _, rfl, _, rfl, _, _, rfl, rfl, a, c, p, ws, 2, ?_, hF2, npa, hp2, hne, hl, hnd, hw, by decide, by omega, fun v pg1 H3 hF3 b3 dt o1 d1 c1 l1 => ?_⟩
          · show [V.ref a, .ref p, .int (((n + 1 : Nat) : Int) - 1), .int 2] = _
            rw [show (((n + 1 : Nat) : Int) - 1) = (n : Int) by omega]
            rfl
          have hp3 := b3 _ _ npa hp2
          refine ⟨_, rfl, _, rfl, _, rfl, _, _, rfl, rfl, a, c, p, ws, 1, ?_, hF3, npa, hp3, hne, hl, hnd, hw, by decide, by omega, fun u pg2 H4 hF4 b4 du o2 d2 c2 l2 => ?_⟩
          · show [V.ref a, .ref p, .int (((n + 1 : Nat) : Int) - 1), .int 1] = _
            rw [show (((n + 1 : Nat) : Int) - 1) = (n : Int) by omega]
            rfl
          refine ⟨small_line (by show 3 ≤ 1000; decide), fun o no => ?_⟩
          obtain ⟨so, d0⟩ := dnewT (z := a) no (.cons (.str (Str.ofString "either") (by decide +kernel)) (.cons (dt.but hF3 b4) (.cons du .nil)))
          have A := app _ (.ref o) (.eit pg1 pg2 .nil) (some (.int w5)) (some (.int w)) y7 y8 (hF4.same so) (b2.trans (b3.trans (b4.trans (But.of so)))) (fun d hd => by cases hd; exact d0) rfl ⟨⟨o1, o2⟩, trivial⟩ (by show max (max (dep pg1 + 1) (dep pg2 + 1)) 0 ≤ n + 1; omega) (by
            show max (cnt pg1) (cnt pg2) + 0 ≤ 3 ^ (n + 1)
            omega)
          exact ⟨D, vs, .ref o, rfl, rfl, A.1, vl, A.2 _ rfl⟩
      · obtain ⟨hF1, b1, vs, pg, y5, y6, y7, y8, hD, hvs, ok, hd, hc, hln, rfl⟩ := hq
        exact ⟨hF1, b1, vs, pg, y5, y6, y7, y8, hD, hvs, ok, hd, Nat.le_trans hc (Nat.mul_le_mul_right _ rm), by omega, rfl⟩
    · obtain ⟨hF1, b1, vs, pg, y5, y6, y7, y8, hD, hvs, ok, hd, hc, hln, rfl⟩ := hM
      refine ⟨_, rfl, D, vs, rfl, .inl ⟨SqL.of hD, fun l nl => ?_⟩⟩
      obtain ⟨sl, dl⟩ := dnewT (z := a) nl hvs
      exact q (.ref l) pg _ (hF1.same sl) (b1.trans (But.of sl)) dl ok hd hc hln
end
/-! ### names in order, any number of them -/
def leN (a b : List Nat) : Prop := ltCps b a = false
theorem ltc (a b : List Nat) : ltCps a b = decide (a < b) := by
  have h := lt_meets (SX.S a) (SX.S b)
  rw [S_list, S_list] at h
  exact h.symm
theorem leN_iff {a b : List Nat} : leN a b ↔ a ≤ b := by
  unfold leN
  rw [ltc, decide_eq_false_iff_not, List.not_lt]
theorem leN_trans {a b c : List Nat} (h : leN a b) (k : leN b c) : leN a c := leN_iff.mpr (List.le_trans (leN_iff.mp h) (leN_iff.mp k))
theorem leN_anti {a b : List Nat} (h : leN a b) (k : leN b a) : a = b := by
  by_cases e : a = b
  · exact e
  · have := lt_tri a b h e
    rw [show ltCps a b = false from k] at this
    cases this
def leStr (a b : Str) : Prop := leN a.cps.toList b.cps.toList
theorem srt_pw : ∀ (l : List Str), sortedS l = true → l.Pairwise leStr
  | [], _ => .nil
  | [x], _ => List.pairwise_singleton _ _
  | x :: y :: r, h => by
    have h : (!ltCps y.cps.toList x.cps.toList && risingS y r) = true := h
    rw [Bool.and_eq_true, Bool.not_eq_true'] at h
    have ih := srt_pw (y :: r) h.2
    refine List.Pairwise.cons (fun z hz => ?_) ih
    rcases List.mem_cons.mp hz with rfl | hz
    · exact h.1
    · exact leN_trans h.1 ((List.pairwise_cons.mp ih).1 z hz)
theorem str_ext {a b : Str} (h : a.cps.toList = b.cps.toList) : a = b := by rw [← S_of a, ← S_of b, h]
theorem srt_unique {l r : List Str} (hl : l.Pairwise leStr) (hr : r.Pairwise leStr) (h : l.Perm r) : l = r :=
  List.Perm.eq_of_pairwise (fun _ _ _ _ h k => str_ext (leN_anti h k)) hl hr h
section
variable {P : Program} {w : World} {K : PySem.W.Frag} {mg : Str → Option Value} {base : Heap} {fa : Nat → Addr} {fd : Nat → FuncData}
theorem prog_all (T : Txt K mg fa fd) : ∀ n, FnOk P w K mg base CX0 (n + 7) (fa 46) (fd 46) ["_law_feed_here", "_law_words_here", "_law_depth", "_law_many"] (spP n)
  | 0 => T.F_program.ok sc_program (fun vs H Q E h => h.elim) (fun cdv A outer s0 H vs Q E hr h => h.elim)
  | n + 1 => prog_step T n (prog_all T n)
theorem ok_program (T : Txt K mg fa fd) : FnOk P w K mg base CX0 10 (fa 46) (fd 46) ["_law_feed_here", "_law_words_here", "_law_depth", "_law_many"] (spPg 2) := prog_all T 3
end
/-! ### sameness of data, dicts too -/
theorem tyT {K : PySem.W.Frag} {H : Hp} {p : Addr} {xs : List V} (h : SqT K H p xs) : TyX K H (.ref p) (.type "tuple") := by
  rcases h with (h | ⟨o, h⟩) | ⟨o, its, n, h1, h2, _⟩
  · exact .base (.tup h)
  · exact .fTuple h
  · exact .kTuple h1 h2
def EqX (K : PySem.W.Frag) (H : Hp) : Nat → V → V → Prop
  | 0, v, w => Leaf v w
  | n + 1, v, w => Leaf v w ∨ (∃ (a b : Addr) (xs ys : List V), v = .ref a ∧ w = .ref b ∧ ((H a = some (.lst xs) ∧ H b = some (.lst ys)) ∨ (SqT K H a xs ∧ SqT K H b ys)) ∧ xs.length = ys.length ∧ xs.length ≤ 1000 ∧
      ∀ (i : Nat) (x y : V), xs[i]? = some x → ys[i]? = some y → EqX K H n x y) ∨
      (1 ≤ n ∧ ∃ (a b : Addr) (ks ls : List (Key × V)) (N : List (List Nat)), v = .ref a ∧ w = .ref b ∧ a ≠ b ∧ H a = some (.dK ks) ∧ H b = some (.dK ls) ∧ ks.map (·.1) = N.map keyOf ∧ ls.map (·.1) = N.map keyOf ∧ N.length ≤ 2 ∧ (∀ x ∈ N, PyData.strOk (SX.S x) = true) ∧
      ∀ x ∈ N, ∃ (p q : Addr) (zs : List Int), valV ks (keyOf x) = some (.ref p) ∧ valV ls (keyOf x) = some (.ref q) ∧ SqT K H p (zs.map V.int) ∧ SqT K H q (zs.map V.int) ∧ zs.length ≤ 1000)
theorem EqX.leaf {K : PySem.W.Frag} {H : Hp} {n : Nat} {v w : V} (h : Leaf v w) : EqX K H n v w := by
  cases n with
  | zero => exact h
  | succ n => exact .inl h
theorem EqX.mono {K : PySem.W.Frag} {H H' : Hp} (s : Same H H') : ∀ (n : Nat) {v w : V}, EqX K H n v w → EqX K H' n v w
  | 0, _, _, h => h
  | n + 1, _, _, h => by
    rcases h with h | ⟨a, b, xs, ys, e1, e2, h, l1, l2, r⟩ | ⟨n1, a, b, ks, ls, N, e1, e2, nab, ha, hb, e3, e4, e5, e6, r⟩
    · exact .inl h
    · refine .inr (.inl ⟨a, b, xs, ys, e1, e2, ?_, l1, l2, fun i x y h1 h2 => EqX.mono s n (r i x y h1 h2)⟩)
      rcases h with ⟨h1, h2⟩ | ⟨h1, h2⟩
      · exact .inl ⟨s _ _ h1, s _ _ h2⟩
      · exact .inr ⟨SqT.sm s _ _ h1, SqT.sm s _ _ h2⟩
    · refine .inr (.inr ⟨n1, a, b, ks, ls, N, e1, e2, nab, s _ _ ha, s _ _ hb, e3, e4, e5, e6, fun x hx => ?_⟩)
      obtain ⟨p, q, zs, h1, h2, h3, h4, h5⟩ := r x hx
      exact ⟨p, q, zs, h1, h2, SqT.sm s _ _ h3, SqT.sm s _ _ h4, h5⟩
theorem eqx_ints {K : PySem.W.Frag} {H : Hp} {n : Nat} {p q : Addr} {zs : List Int} (h1 : SqT K H p (zs.map V.int)) (h2 : SqT K H q (zs.map V.int)) (hl : zs.length ≤ 1000) : EqX K H (n + 1) (.ref p) (.ref q) := by
  refine .inr (.inl ⟨p, q, _, _, rfl, rfl, .inr ⟨h1, h2⟩, rfl, by rw [List.length_map]; exact hl, fun i y z h1 h2 => ?_⟩)
  have e : y = z := Option.some.inj (h1.symm.trans h2)
  subst e
  rw [List.getElem?_map] at h1
  obtain ⟨o, ho, rfl⟩ := Option.map_eq_some_iff.mp h1
  exact EqX.leaf ⟨rfl, .inr (.inr (.inl ⟨o, rfl⟩))⟩
def spSameX (K : PySem.W.Frag) (n : Nat) : Sp := fun vs H Q _ => ∃ v w : V, vs = [v, w] ∧ EqX K H n v w ∧ ∀ H', Same H H' → Q (.bl true) H'
def spSX (K : PySem.W.Frag) : Nat → Sp
  | 0 => fun _ _ _ _ => False
  | n + 1 => spSameX K n
section
variable {P : Program} {w : World} {K : PySem.W.Frag} {mg : Str → Option Value} {base : Heap} {fa : Nat → Addr} {fd : Nat → FuncData}
theorem sameX_step (T : Txt K mg fa fd) (n : Nat) (G : FnOk P w K mg base CX0 (n + 1) (fa 30) (fd 30) ["_law_found", "_law_due"] (spSX K n)) : FnOk P w K mg base CX0 (n + 2) (fa 30) (fd 30) ["_law_found", "_law_due"] (spSameX K n) := by
  refine T.F_same.ok sc_same (fun vs H Q E h => ?_) (fun cdv A outer s H vs Q E hr h => ?_)
  · obtain ⟨x, y, rfl, _⟩ := h
    rfl
  · obtain ⟨x, y, rfl, hE, q⟩ := h
    refine ⟨_, (pss_cons (ps_if (pt_cmpR op_isN (pv 1) pe_non (nomark _)) (pss_one (ps_ret (pe_cmpR op_isN (pv 0) pe_non (nomark _)))) pss_nil)
      (pss_cons (ps_if (PW.pt (pw_or (pt_val (pe_callB call_isi (by rfl) T.m_isinstance PyProof.Rows.boot_isinstance (pa_cons (pv 1) (pa_cons (pe_bltn (v := .ty "bool") (by rfl) T.m_bool (by decide +kernel) rfl) pa_nil)))) (pw_or1 (pt_val (pe_callB call_isi (by rfl) T.m_isinstance PyProof.Rows.boot_isinstance (pa_cons (pv 0) (pa_cons (pe_bltn (v := .ty "bool") (by rfl) T.m_bool (by decide +kernel) rfl) pa_nil))))))) (pss_one (ps_ret (pe_and (pe_callB call_isi (by rfl) T.m_isinstance PyProof.Rows.boot_isinstance (pa_cons (pv 1) (pa_cons (pe_bltn (v := .ty "bool") (by rfl) T.m_bool (by decide +kernel) rfl) pa_nil))) (pe_and (pe_callB call_isi (by rfl) T.m_isinstance PyProof.Rows.boot_isinstance (pa_cons (pv 0) (pa_cons (pe_bltn (v := .ty "bool") (by rfl) T.m_bool (by decide +kernel) rfl) pa_nil))) (pe_one (pe_cmpR op_eq (pv 0) (pv 1) (nomark _))))))) pss_nil)
      (pss_cons (ps_if (pt_val (pe_callB call_isiT (by rfl) T.m_isinstance PyProof.Rows.boot_isinstance (pa_cons (pv 1) (pa_cons (pe_tup (pa_cons (pe_bltn (v := .ty "int") (by rfl) T.m_int (by decide +kernel) rfl) (pa_cons (pe_bltn (v := .ty "str") (by rfl) T.m_str (by decide +kernel) rfl) pa_nil))) pa_nil)))) (pss_one (ps_ret (pe_and (pe_callB call_isiT (by rfl) T.m_isinstance PyProof.Rows.boot_isinstance (pa_cons (pv 0) (pa_cons (pe_tup (pa_cons (pe_bltn (v := .ty "int") (by rfl) T.m_int (by decide +kernel) rfl) (pa_cons (pe_bltn (v := .ty "str") (by rfl) T.m_str (by decide +kernel) rfl) pa_nil))) pa_nil))) (pe_and (pe_cmpR op_eq (pe_callB call_isi (by rfl) T.m_isinstance PyProof.Rows.boot_isinstance (pa_cons (pv 0) (pa_cons (pe_bltn (v := .ty "int") (by rfl) T.m_int (by decide +kernel) rfl) pa_nil))) (pe_callB call_isi (by rfl) T.m_isinstance PyProof.Rows.boot_isinstance (pa_cons (pv 1) (pa_cons (pe_bltn (v := .ty "int") (by rfl) T.m_int (by decide +kernel) rfl) pa_nil))) (nomark _)) (pe_one (pe_cmpR op_eq (pv 0) (pv 1) (nomark _))))))) pss_nil)
      (pss_cons (ps_if (pt_val (pe_callB call_isi (by rfl) T.m_isinstance PyProof.Rows.boot_isinstance (pa_cons (pv 1) (pa_cons (pe_bltn (v := .ty "dict") (by rfl) T.m_dict (by decide +kernel) rfl) pa_nil)))) (pss_cons (ps_if (PW.pt (pw_or (pt_not (pt_val (pe_callB call_isi (by rfl) T.m_isinstance PyProof.Rows.boot_isinstance (pa_cons (pv 0) (pa_cons (pe_bltn (v := .ty "dict") (by rfl) T.m_dict (by decide +kernel) rfl) pa_nil))))) (pw_or1 (pt_cmpR (op_neDK (K := K) rfl hr.units) (pe_callB cr_sortedS (by rfl) T.m_sorted (by decide +kernel) (pa_cons (pe_callTy (call_listD rfl) (by rfl) T.m_list (by decide +kernel) (pa_cons (pv 0) pa_nil)) pa_nil)) (pe_callB cr_sortedS (by rfl) T.m_sorted (by decide +kernel) (pa_cons (pe_callTy (call_listD rfl) (by rfl) T.m_list (by decide +kernel) (pa_cons (pv 1) pa_nil)) pa_nil)) (nomark _))))) (pss_one (ps_ret pe_bl)) pss_nil)
      (pss_one (ps_ret (pe_callB (cr_all rfl) (by rfl) T.m_all PyProof.Rows.boot_all (pa_cons (pe_lock (pe_lc (own := [("_law_key", 2)]) (g := gName 2) (tt := tYes) rfl sc_same.nd (pi_keys (pv 1)) (blkOk_by (own := [("_law_key", 2)]) (N := ["_law_found", "_law_due", "_law_key", "_law_one", "_law_two"]) (sc := defScope s_same) (by decide +kernel)) (fun _ _ _ _ _ => pg_name (i := 2) sc_same.nd rfl (Or.inl rfl)) (fun _ _ _ _ _ => pts_nil) (fun _ _ _ _ _ => (pe_call G (hr.mono (by omega)) (by rfl) T.g_same T.F_same.kp T.b_same .nil pass0 (pa_cons (pe_dget (Nat.lt_of_le_of_lt (Nat.add_le_add_left (by decide) _) hr.units) (pv 0) (pv 2) (fun _ _ => rfl)) (pa_cons (pe_dget (Nat.lt_of_le_of_lt (Nat.add_le_add_left (by decide) _) hr.units) (pv 1) (pv 2) (fun _ _ => rfl)) pa_nil)))))) pa_nil))))) pss_nil)
      (pss_cons (ps_if (PW.pt (pw_or (pt_cmpR op_ne (pe_callB call_isi (by rfl) T.m_isinstance PyProof.Rows.boot_isinstance (pa_cons (pv 1) (pa_cons (pe_bltn (v := .ty "list") (by rfl) T.m_list (by decide +kernel) rfl) pa_nil))) (pe_callB call_isi (by rfl) T.m_isinstance PyProof.Rows.boot_isinstance (pa_cons (pv 0) (pa_cons (pe_bltn (v := .ty "list") (by rfl) T.m_list (by decide +kernel) rfl) pa_nil))) (nomark _)) (pw_or1 (pt_cmpR op_ne (pe_callB call_isi (by rfl) T.m_isinstance PyProof.Rows.boot_isinstance (pa_cons (pv 1) (pa_cons (pe_bltn (v := .ty "tuple") (by rfl) T.m_tuple (by decide +kernel) rfl) pa_nil))) (pe_callB call_isi (by rfl) T.m_isinstance PyProof.Rows.boot_isinstance (pa_cons (pv 0) (pa_cons (pe_bltn (v := .ty "tuple") (by rfl) T.m_tuple (by decide +kernel) rfl) pa_nil))) (nomark _))))) (pss_one (ps_ret pe_bl)) pss_nil)
      (pss_one (ps_ret (pe_and (pe_cmpR op_eq (pe_callB call_len_seq (by rfl) T.m_len PySem.boot_len (pa_cons (pv 0) pa_nil)) (pe_callB call_len_seq (by rfl) T.m_len PySem.boot_len (pa_cons (pv 1) pa_nil)) (nomark _)) (pe_one (pe_callB (cr_all rfl) (by rfl) T.m_all PyProof.Rows.boot_all (pa_cons (pe_lc (own := [("_law_one", 3), ("_law_two", 4)]) (g := gTup K 2 (gCons (gName 3) (gCons (gName 4) gNil))) (tt := tYes) rfl sc_same.nd (RZ.pi_zipA (by rfl) T.m_zip (pa_cons (pv 0) (pa_cons (pv 1) pa_nil))) (blkOk_by (own := [("_law_one", 3), ("_law_two", 4)]) (N := ["_law_found", "_law_due", "_law_key", "_law_one", "_law_two"]) (sc := defScope s_same) (by decide +kernel)) (fun _ _ _ _ _ => pg_tup rfl (pgs_cons (pg_name (i := 3) sc_same.nd rfl (Or.inl rfl)) (pgs_cons (pg_name (i := 4) sc_same.nd rfl (Or.inl rfl)) pgs_nil))) (fun _ _ _ _ _ => pts_nil) (fun _ _ _ _ _ => (pe_call G (hr.mono (by omega)) (by rfl) T.g_same T.F_same.kp T.b_same .nil pass0 (pa_cons (pv 3) (pa_cons (pv 4) pa_nil))))) pa_nil))))))))))), ?_⟩
    have leafy : Leaf x y ∨ ∃ n' : Nat, n = n' + 1 ∧ EqX K H (n' + 1) x y := by
      cases n with
      | zero => exact .inl hE
      | succ n' => exact .inr ⟨n', rfl, hE⟩
    have leafy : Leaf x y ∨ ∃ n' : Nat, n = n' + 1 ∧ ((∃ (a b : Addr) (xs ys : List V), x = .ref a ∧ y = .ref b ∧ ((H a = some (.lst xs) ∧ H b = some (.lst ys)) ∨ (SqT K H a xs ∧ SqT K H b ys)) ∧ xs.length = ys.length ∧ xs.length ≤ 1000 ∧
        ∀ (i : Nat) (x y : V), xs[i]? = some x → ys[i]? = some y → EqX K H n' x y) ∨
        (1 ≤ n' ∧ ∃ (a b : Addr) (ks ls : List (Key × V)) (N : List (List Nat)), x = .ref a ∧ y = .ref b ∧ a ≠ b ∧ H a = some (.dK ks) ∧ H b = some (.dK ls) ∧ ks.map (·.1) = N.map keyOf ∧ ls.map (·.1) = N.map keyOf ∧ N.length ≤ 2 ∧ (∀ x ∈ N, PyData.strOk (SX.S x) = true) ∧
        ∀ x ∈ N, ∃ (p q : Addr) (zs : List Int), valV ks (keyOf x) = some (.ref p) ∧ valV ls (keyOf x) = some (.ref q) ∧ SqT K H p (zs.map V.int) ∧ SqT K H q (zs.map V.int) ∧ zs.length ≤ 1000)) := by
      rcases leafy with h | ⟨n', e, h | h⟩
      · exact .inl h
      · exact .inl h
      · exact .inr ⟨n', e, h⟩
    rcases leafy with ⟨rfl, hl⟩ | ⟨n', rfl, ⟨a, b, xs, ys, rfl, rfl, hab, hlen, h1000, hsub⟩ | ⟨n1, a, b, ks, ls, N, rfl, rfl, nab, ha, hb, ek, el, hN2, hso, hval⟩⟩
    · refine ⟨_, rfl, rfl, _, rfl, ite2 (fun e => ?_) (fun e => ?_)⟩
      · have ex := of_decide_eq_true e
        subst ex
        exact ⟨_, rfl, rfl, q _ (Same.refl _)⟩
      · rcases hl with rfl | ⟨bb, rfl⟩ | ⟨i, rfl⟩ | ⟨z, rfl⟩
        · exact absurd (decide_eq_true rfl) e
        · refine ⟨_, rfl, _, _, _, _, _, rfl, .ty _, .base (.bl _), kit_ty (r := true) (by decide +kernel), _, rfl, iteT (iteT ?_)⟩
          refine ⟨_, rfl, _, _, _, _, _, rfl, .ty _, .base (.bl _), kit_ty (r := true) (by decide +kernel), _, rfl, iteT ?_⟩
          refine ⟨_, rfl, _, _, _, _, _, rfl, .ty _, .base (.bl _), kit_ty (r := true) (by decide +kernel), _, rfl, iteT ?_⟩
          refine ⟨_, rfl, _, rfl, rfl, ?_⟩
          rw [decide_eq_true rfl]
          exact q _ (Same.refl _)
        · refine ⟨_, rfl, _, _, _, _, _, rfl, .ty _, .base (.int _), kit_ty (r := false) (by decide +kernel), _, rfl, iteF ?_⟩
          refine ⟨_, rfl, _, _, _, _, _, rfl, .ty _, .base (.int _), kit_ty (r := false) (by decide +kernel), _, rfl, iteF ?_⟩
          refine ⟨_, rfl, two_line, fun p np => ?_⟩
          refine ⟨_, p, _, _, _, _, rfl, upd_same, .cons (.ty _) (.cons (.ty _) .nil), .base (.int _), kit2 (r1 := true) (r2 := false) (by decide +kernel) (by decide +kernel), _, rfl, iteT ?_⟩
          refine ⟨_, rfl, two_line, fun p2 np2 => ?_⟩
          refine ⟨_, p2, _, _, _, _, rfl, upd_same, .cons (.ty _) (.cons (.ty _) .nil), .base (.int _), kit2 (r1 := true) (r2 := false) (by decide +kernel) (by decide +kernel), _, rfl, iteT ?_⟩
          refine ⟨_, rfl, _, _, _, _, _, rfl, .ty _, .base (.int _), kit_ty (r := true) (by decide +kernel), ?_⟩
          refine ⟨_, rfl, _, _, _, _, _, rfl, .ty _, .base (.int _), kit_ty (r := true) (by decide +kernel), rfl, _, rfl, iteT ?_⟩
          refine ⟨_, rfl, _, rfl, rfl, ?_⟩
          rw [decide_eq_true rfl]
          exact q _ ((same_upd np).trans (same_upd np2))
        · refine ⟨_, rfl, _, _, _, _, _, rfl, .ty _, .base (.str _), kit_ty (r := false) (by decide +kernel), _, rfl, iteF ?_⟩
          refine ⟨_, rfl, _, _, _, _, _, rfl, .ty _, .base (.str _), kit_ty (r := false) (by decide +kernel), _, rfl, iteF ?_⟩
          refine ⟨_, rfl, two_line, fun p np => ?_⟩
          refine ⟨_, p, _, _, _, _, rfl, upd_same, .cons (.ty _) (.cons (.ty _) .nil), .base (.str _), kit2 (r1 := false) (r2 := true) (by decide +kernel) (by decide +kernel), _, rfl, iteT ?_⟩
          refine ⟨_, rfl, two_line, fun p2 np2 => ?_⟩
          refine ⟨_, p2, _, _, _, _, rfl, upd_same, .cons (.ty _) (.cons (.ty _) .nil), .base (.str _), kit2 (r1 := false) (r2 := true) (by decide +kernel) (by decide +kernel), _, rfl, iteT ?_⟩
          refine ⟨_, rfl, _, _, _, _, _, rfl, .ty _, .base (.str _), kit_ty (r := false) (by decide +kernel), ?_⟩
          refine ⟨_, rfl, _, _, _, _, _, rfl, .ty _, .base (.str _), kit_ty (r := false) (by decide +kernel), rfl, _, rfl, iteT ?_⟩
          refine ⟨_, rfl, _, rfl, rfl, ?_⟩
          rw [decide_eq_true rfl]
          exact q _ ((same_upd np).trans (same_upd np2))
    · refine ⟨_, rfl, rfl, _, rfl, ite2 (fun e => absurd (of_decide_eq_true e) (by intro z; cases z)) (fun e => ?_)⟩
      rcases hab with ⟨ha, hb⟩ | ⟨ha, hb⟩
      · refine ⟨_, rfl, _, _, _, _, _, rfl, .ty _, .base (.lst hb), kit_ty (r := false) (by decide +kernel), _, rfl, iteF ⟨_, rfl, _, _, _, _, _, rfl, .ty _, .base (.lst ha), kit_ty (r := false) (by decide +kernel), _, rfl, iteF ⟨_, rfl, two_line, fun p np => ?_⟩⟩⟩
        have s1 := same_upd (o := .tup [V.ty "int", V.ty "str"]) np
        refine ⟨_, p, _, _, _, _, rfl, upd_same, .cons (.ty _) (.cons (.ty _) .nil), .base (.lst (s1 _ _ hb)), kit2 (r1 := false) (r2 := false) (by decide +kernel) (by decide +kernel), _, rfl, iteF ?_⟩
        generalize upd H p (.tup [V.ty "int", V.ty "str"]) = H2 at s1
        have ha2 := s1 _ _ ha
        have hb2 := s1 _ _ hb
        refine ⟨_, rfl, _, _, _, _, _, rfl, .ty _, .base (.lst hb2), kit_ty (r := false) (by decide +kernel), _, rfl, iteF ?_⟩
        refine ⟨_, rfl, _, _, _, _, _, rfl, .ty _, .base (.lst hb2), kit_ty (r := true) (by decide +kernel), _, rfl, _, _, _, _, _, rfl, .ty _, .base (.lst ha2), kit_ty (r := true) (by decide +kernel), rfl, _, rfl, iteF ?_⟩
        refine ⟨_, rfl, _, _, _, _, _, rfl, .ty _, .base (.lst hb2), kit_ty (r := false) (by decide +kernel), _, rfl, _, _, _, _, _, rfl, .ty _, .base (.lst ha2), kit_ty (r := false) (by decide +kernel), rfl, _, rfl, iteF ?_⟩
        refine ⟨_, rfl, a, _, rfl, .inl (SqL.of ha2), _, rfl, b, _, rfl, .inl (SqL.of hb2), rfl, _, rfl, ?_⟩
        rw [hlen, decide_eq_true rfl]
        refine iteT ⟨_, rfl, _, rfl, a, b, xs, ys, rfl, .inl ⟨SqL.of ha2, SqL.of hb2, fun D nD => ?_⟩⟩
        refine ⟨fun i m H' => i + m = xs.length ∧ Same H2 H' ∧ H' D = some (.lst ((List.replicate i true).map V.bl)), ⟨xs.length, by omega, same_upd nD, upd_same⟩, fun i m H' hW => ?_⟩
        obtain ⟨hm, s2, hD⟩ := hW
        by_cases hi : i < xs.length
        · have hx : xs[i]? = some xs[i] := List.getElem?_eq_getElem hi
          have hy : ys[i]? = some ys[i] := List.getElem?_eq_getElem (by omega)
          refine .inr ⟨⟨_, _, _, _, SqL.of (s2 _ _ ha2), SqL.of (s2 _ _ hb2), hx, hy⟩, fun H'' => Same H2 H'' ∧ H'' D = some (.lst ((List.replicate (i + 1) true).map V.bl)), fun H'' h => ⟨m - 1, by omega, by omega, h⟩, fun v H'' hv => ?_⟩
          obtain ⟨T', x1, y1, rfl, nT, rfl, f1, f2⟩ := hv
          have ex : x1 = xs[i] := Option.some.inj ((f1 _ (SqL.of (s2 _ _ ha2))).symm.trans hx)
          have ey : y1 = ys[i] := Option.some.inj ((f2 _ (SqL.of (s2 _ _ hb2))).symm.trans hy)
          have s3 : Same H' (upd H' T' (.tup [x1, y1])) := same_upd nT
          refine ⟨T', [x1, y1], rfl, .inl (.inl upd_same), rfl, x1, [y1], rfl, y1, [], rfl, rfl, rfl, ?_⟩
          refine ⟨_, rfl, _, rfl, x1, y1, rfl, ?_, fun H4 s4 => ⟨_, s4 _ _ (s3 _ _ hD), ?_, ?_, ?_⟩⟩
          · subst ex ey
            exact EqX.mono (s1.trans (s2.trans s3)) n' (hsub i _ _ hx hy)
          · rw [List.length_map, List.length_replicate]
            exact small1000 (by omega)
          · intro c o e
            rw [upd_ne (ne_of_none e nD)]
            exact s4 _ _ (s3 _ _ (s2 _ _ e))
          · rw [upd_same, List.replicate_succ', List.map_append]
            rfl
        · have ei : i = xs.length := by omega
          subst ei
          refine .inl ⟨⟨xs, ys, SqL.of (s2 _ _ ha2), SqL.of (s2 _ _ hb2), .inl (Nat.le_refl _)⟩, ?_⟩
          refine ⟨D, _, rfl, .inl (.inl hD), ?_⟩
          have all : ∀ k : Nat, (List.replicate k true).all id = true := fun k => by
            rw [List.all_replicate]
            split <;> rfl
          rw [all]
          exact q _ (s1.trans s2)
      · refine ⟨_, rfl, _, _, _, _, _, rfl, .ty _, tyT hb, kit_ty (r := false) (by decide +kernel), _, rfl, iteF ⟨_, rfl, _, _, _, _, _, rfl, .ty _, tyT ha, kit_ty (r := false) (by decide +kernel), _, rfl, iteF ⟨_, rfl, two_line, fun p np => ?_⟩⟩⟩
        have s1 := same_upd (o := .tup [V.ty "int", V.ty "str"]) np
        refine ⟨_, p, _, _, _, _, rfl, upd_same, .cons (.ty _) (.cons (.ty _) .nil), tyT (SqT.sm s1 _ _ hb), kit2 (r1 := false) (r2 := false) (by decide +kernel) (by decide +kernel), _, rfl, iteF ?_⟩
        generalize upd H p (.tup [V.ty "int", V.ty "str"]) = H2 at s1
        have ha2 := SqT.sm s1 _ _ ha
        have hb2 := SqT.sm s1 _ _ hb
        refine ⟨_, rfl, _, _, _, _, _, rfl, .ty _, tyT hb2, kit_ty (r := false) (by decide +kernel), _, rfl, iteF ?_⟩
        refine ⟨_, rfl, _, _, _, _, _, rfl, .ty _, tyT hb2, kit_ty (r := false) (by decide +kernel), _, rfl, _, _, _, _, _, rfl, .ty _, tyT ha2, kit_ty (r := false) (by decide +kernel), rfl, _, rfl, iteF ?_⟩
        refine ⟨_, rfl, _, _, _, _, _, rfl, .ty _, tyT hb2, kit_ty (r := true) (by decide +kernel), _, rfl, _, _, _, _, _, rfl, .ty _, tyT ha2, kit_ty (r := true) (by decide +kernel), rfl, _, rfl, iteF ?_⟩
        refine ⟨_, rfl, a, _, rfl, .inr ha2, _, rfl, b, _, rfl, .inr hb2, rfl, _, rfl, ?_⟩
        rw [hlen, decide_eq_true rfl]
        refine iteT ⟨_, rfl, _, rfl, a, b, xs, ys, rfl, .inr ⟨ha2, hb2, fun D nD => ?_⟩⟩
        refine ⟨fun i m H' => i + m = xs.length ∧ Same H2 H' ∧ H' D = some (.lst ((List.replicate i true).map V.bl)), ⟨xs.length, by omega, same_upd nD, upd_same⟩, fun i m H' hW => ?_⟩
        obtain ⟨hm, s2, hD⟩ := hW
        by_cases hi : i < xs.length
        · have hx : xs[i]? = some xs[i] := List.getElem?_eq_getElem hi
          have hy : ys[i]? = some ys[i] := List.getElem?_eq_getElem (by omega)
          refine .inr ⟨⟨_, _, _, _, SqT.sm s2 _ _ ha2, SqT.sm s2 _ _ hb2, hx, hy⟩, fun H'' => Same H2 H'' ∧ H'' D = some (.lst ((List.replicate (i + 1) true).map V.bl)), fun H'' h => ⟨m - 1, by omega, by omega, h⟩, fun v H'' hv => ?_⟩
          obtain ⟨T', x1, y1, rfl, nT, rfl, f1, f2⟩ := hv
          have ex : x1 = xs[i] := Option.some.inj ((f1 _ (SqT.sm s2 _ _ ha2)).symm.trans hx)
          have ey : y1 = ys[i] := Option.some.inj ((f2 _ (SqT.sm s2 _ _ hb2)).symm.trans hy)
          have s3 : Same H' (upd H' T' (.tup [x1, y1])) := same_upd nT
          refine ⟨T', [x1, y1], rfl, .inl (.inl upd_same), rfl, x1, [y1], rfl, y1, [], rfl, rfl, rfl, ?_⟩
          refine ⟨_, rfl, _, rfl, x1, y1, rfl, ?_, fun H4 s4 => ⟨_, s4 _ _ (s3 _ _ hD), ?_, ?_, ?_⟩⟩
          · subst ex ey
            exact EqX.mono (s1.trans (s2.trans s3)) n' (hsub i _ _ hx hy)
          · rw [List.length_map, List.length_replicate]
            exact small1000 (by omega)
          · intro c o e
            rw [upd_ne (ne_of_none e nD)]
            exact s4 _ _ (s3 _ _ (s2 _ _ e))
          · rw [upd_same, List.replicate_succ', List.map_append]
            rfl
        · have ei : i = xs.length := by omega
          subst ei
          refine .inl ⟨⟨xs, ys, SqT.sm s2 _ _ ha2, SqT.sm s2 _ _ hb2, .inl (Nat.le_refl _)⟩, ?_⟩
          refine ⟨D, _, rfl, .inl (.inl hD), ?_⟩
          have all : ∀ k : Nat, (List.replicate k true).all id = true := fun k => by
            rw [List.all_replicate]
            split <;> rfl
          rw [all]
          exact q _ (s1.trans s2)
    · -- dicts
      obtain ⟨m, rfl⟩ : ∃ m, n' = m + 1 := ⟨n' - 1, by omega⟩
      refine ⟨_, rfl, rfl, _, rfl, ite2 (fun e => absurd (of_decide_eq_true e) (by intro z; cases z)) (fun e => ?_)⟩
      refine ⟨_, rfl, _, _, _, _, _, rfl, .ty _, .base (.dK hb), kit_ty (r := false) (by decide +kernel), _, rfl, iteF ⟨_, rfl, _, _, _, _, _, rfl, .ty _, .base (.dK ha), kit_ty (r := false) (by decide +kernel), _, rfl, iteF ⟨_, rfl, two_line, fun p np => ?_⟩⟩⟩
      have s1 := same_upd (o := .tup [V.ty "int", V.ty "str"]) np
      refine ⟨_, p, _, _, _, _, rfl, upd_same, .cons (.ty _) (.cons (.ty _) .nil), .base (.dK (s1 _ _ hb)), kit2 (r1 := false) (r2 := false) (by decide +kernel) (by decide +kernel), _, rfl, iteF ?_⟩
      generalize upd H p (.tup [V.ty "int", V.ty "str"]) = H2 at s1
      have ha2 := s1 _ _ ha
      have hb2 := s1 _ _ hb
      refine ⟨_, rfl, _, _, _, _, _, rfl, .ty _, .base (.dK hb2), kit_ty (r := true) (by decide +kernel), _, rfl, iteT ?_⟩
      have pk : ∀ {ks : List (Key × V)}, ks.map (·.1) = N.map keyOf → (ks.map fun kv => kV kv.1) = (N.map SX.S).map V.str := fun {ks} e => by
        rw [show (ks.map fun kv => kV kv.1) = (ks.map (·.1)).map kV by rw [List.map_map]; rfl, e, List.map_map, List.map_map]
        rfl
      have nl : (N.map SX.S).length < 64 := by rw [List.length_map]; omega
      refine ⟨_, rfl, _, _, _, _, _, rfl, .ty _, .base (.dK ha2), kit_ty (r := true) (by decide +kernel), _, rfl, iteF ?_⟩
      refine ⟨_, rfl, a, ks, rfl, .inl ha2, fun p1 n1 => ?_⟩
      rw [pk ek]
      have t1 := same_upd (o := HO.lst ((N.map SX.S).map V.str)) n1
      refine ⟨p1, N.map SX.S, rfl, SqL.of upd_same, nl, fun ys p2 pm1 so1 n2 => ?_⟩
      have t2 := t1.trans (same_upd (o := HO.lst (ys.map V.str)) n2)
      refine ⟨_, rfl, b, ls, rfl, .inl (t2 _ _ hb2), fun p3 n3 => ?_⟩
      rw [pk el]
      refine ⟨p3, N.map SX.S, rfl, SqL.of upd_same, nl, fun zs p4 pm2 so2 n4 => ?_⟩
      have eyz : ys = zs := srt_unique (srt_pw _ so1) (srt_pw _ so2) (pm1.trans pm2.symm)
      subst eyz
      have t3 := same_upd (o := HO.lst ((N.map SX.S).map V.str)) n3
      have t4 := t3.trans (same_upd (o := HO.lst (ys.map V.str)) n4)
      have sh := shape_strs ys (by rw [pm1.length_eq, List.length_map]; exact hN2) (fun x hx => by
        obtain ⟨y, hy, rfl⟩ := List.mem_map.mp (pm1.mem_iff.mp hx)
        exact hso y hy)
      refine ⟨_, _, .lst (SqL.of (t4 _ _ upd_same)) (dp_strs _), .lst (SqL.of upd_same) (dp_strs _), sh, sh, _, rfl, ?_⟩
      rw [show PyData.eqv (.list (ys.map PyData.str)) (.list (ys.map PyData.str)) = true from eqvAll_strs _]
      have s5 := t2.trans t4
      have ha3 := s5 _ _ ha2
      have hb3 := s5 _ _ hb2
      refine iteF ?_
      generalize upd (upd (upd (upd H2 p1 (HO.lst ((N.map SX.S).map V.str))) p2 (HO.lst (ys.map V.str))) p3 (HO.lst ((N.map SX.S).map V.str))) p4 (HO.lst (ys.map V.str)) = H3 at *
      have s15 := s1.trans s5
      refine ⟨b, _, hb3, trivial, fun od => ?_⟩
      refine ⟨_, rfl, b, od, rfl, .inl ⟨ls, upd_same, fun D nD => ?_⟩⟩
      have nbD : D ≠ b := fun e => by rw [e, upd_same] at nD; cases nD
      have nDH : H3 D = none := by
        rw [upd_ne nbD] at nD
        exact nD
      have ll : ls.length = N.length := by
        have := congrArg List.length el
        rw [List.length_map, List.length_map] at this
        exact this
      refine lc_keys (fun i G => G b = some (.frz od (.dK ls)) ∧ Ex b H3 G ∧ G D = some (.lst ((List.replicate i true).map V.bl))) ⟨?_, ?_, upd_same⟩ (fun i G h => h.1) (fun i k vv G hkv hp => ?_) (fun G hp => ?_)
      · rw [upd_ne nbD.symm]
        exact upd_same
      · exact fun c o e n => by
          rw [upd_ne (ne_of_none e nDH), upd_ne n]
          exact e
      · obtain ⟨hfb, ex, hD⟩ := hp
        obtain ⟨x, hx, rfl⟩ := keys_at el hkv
        obtain ⟨p, q0, zs, e1, e2, f1, f2, hz⟩ := hval x (List.mem_of_getElem? hx)
        have tr : Tr K H G := ⟨fun p xs h => (ex.sqt hb3).1 _ _ (SqT.sm s15 _ _ h), fun p xs h => (ex.sqt (K := K) hb3).2 _ _ (s15 _ _ h)⟩
        have il : i < N.length := (List.getElem?_eq_some_iff.mp hx).1
        refine ⟨rfl, _, rfl, _, rfl, a, _, rfl, .inl ⟨ks, keyOf x, .inl (ex _ _ ha3 nab), rfl, e1.symm⟩, _, rfl, _, rfl, b, _, rfl, .inl ⟨ls, keyOf x, .inr ⟨od, hfb⟩, rfl, e2.symm⟩, ?_⟩
        refine ⟨.ref p, .ref q0, rfl, eqx_ints (tr.1 _ _ f1) (tr.1 _ _ f2) hz, fun G4 s4 => ⟨_, s4 _ _ hD, ?_, ?_, ?_, ?_⟩⟩
        · rw [List.length_map, List.length_replicate]
          exact small1000 (by omega)
        · rw [upd_ne nbD.symm]
          exact s4 _ _ hfb
        · exact (ex.same s4).upd nDH
        · rw [upd_same, List.replicate_succ', List.map_append]
          rfl
      · obtain ⟨hfb, ex, hD⟩ := hp
        refine ⟨hfb, D, List.replicate ls.length true, rfl, .inl (.inl ?_), ?_⟩
        · rw [upd_ne nbD]
          exact hD
        · have all : ∀ k : Nat, (List.replicate k true).all id = true := fun k => by
            rw [List.all_replicate]
            split <;> rfl
          rw [all]
          exact q _ (s15.trans (ex.back hb3))
theorem ok_sameX (T : Txt K mg fa fd) : ∀ n : Nat, FnOk P w K mg base CX0 (n + 1) (fa 30) (fd 30) ["_law_found", "_law_due"] (spSX K n)
  | 0 => T.F_same.ok sc_same (fun vs H Q E h => h.elim) (fun cdv A outer s0 H vs Q E hr h => h.elim)
  | n + 1 => sameX_step T n (ok_sameX T n)
end
section
variable {P : Program} {w : World} {K : PySem.W.Frag} {mg : Str → Option Value} {base : Heap} {fa : Nat → Addr} {fd : Nat → FuncData}
/-! ### calls of defs with a star -/
section
variable {X : Cx} {CX : CXT} {k : Nat} {f : Addr} {sp : Sp} {E : XK} {x : Str} {p pos : Pos} {e : Expr} {es : List Expr} {t : TA}
theorem pe_callR (F : FnR X.prog X.w X.K X.mg X.base CX k f sp) (hr : Room k X.A) (hg : Gl X x) (hm : X.mg x = some (.ref f)) (hk : PySem.W.keepIn X.K (.ref f) = true) (hx : Passes CX X E) (ha : PA X (e :: es) t)
    (hd : (x == ("__debug__" : Str)) = false := by decide) (he : starEach (e :: es) X.env = (false, eval e X.env) :: starEach es X.env := by rfl) (hpl : (backTo pos (starEach es X.env)).any (·.1) = false := by rfl) :
    PE X (.Call (.Name x p) (e :: es) [] pos) (fun σ H Q => t σ H fun vs H1 => sp vs H1 Q E) :=
  ⟨fun pins s σ H Q I h => wpAny_Call_Name_kw (ld_glob I hg hm
    (PySem.W.callWith_K (h₀ := X.base) I.ok.mod.kin hk (thn (ha.run pos pins s σ H _ I h) fun us s1 ⟨vs, H1, I1, r, q⟩ => ⟨I1.kIn, wpAny_call (run_fnR F hr hx I1 r q)⟩) he hpl) hd)⟩
theorem pe_callR0 (F : FnR X.prog X.w X.K X.mg X.base CX k f sp) (hr : Room k X.A) (hg : Gl X x) (hm : X.mg x = some (.ref f)) (hk : PySem.W.keepIn X.K (.ref f) = true) (hx : Passes CX X E) (hd : (x == ("__debug__" : Str)) = false := by decide) :
    PE X (.Call (.Name x p) [] [] pos) (fun σ H Q => sp [] H Q E) :=
  ⟨fun pins s σ H Q I h => wpAny_Call_Name_kw (ld_glob I hg hm (PySem.W.callWith_K0 I.kIn hk (wpAny_call (run_fnR F hr hx I .nil h))) hd)⟩
end
end
/-! ### what a run gives -/
def Res (K : PySem.W.Frag) (H : Hp) (ws : List Nm) (o : Option Sta) (r : V) : Prop := (o = none ∧ r = .non) ∨ ∃ s d, o = some s ∧ r = .ref d ∧ RD K H d ws s.1
def Fresh (H0 : Hp) (r : V) : Prop := ∀ d, r = .ref d → H0 d = none
theorem Res.same {K : PySem.W.Frag} {H H' : Hp} {ws : List Nm} {o : Option Sta} {r : V} (h : Res K H ws o r) (s : Same H H') : Res K H' ws o r := by
  rcases h with h | ⟨t, d, e, er, h⟩
  · exact .inl h
  · exact .inr ⟨t, d, e, er, h.same s⟩
theorem Tr.updL {K : PySem.W.Frag} {H : Hp} {T : Addr} {xs ys : List V} (h : H T = some (.lst xs)) : Tr K H (upd H T (.lst ys)) := ⟨fun p zs q => by
  rcases q with (q | ⟨o, q⟩) | q
  · exact .inl (.inl (by rw [upd_ne (fun e => by rw [e, h] at q; cases q)]; exact q))
  · exact .inl (.inr ⟨o, by rw [upd_ne (fun e => by rw [e, h] at q; cases q)]; exact q⟩)
  · exact .inr q, fun p zs q => by rw [upd_ne (fun e => by rw [e, h] at q; cases q)]; exact q⟩
theorem Res.updL {K : PySem.W.Frag} {H : Hp} {ws : List Nm} {o : Option Sta} {r : V} {T : Addr} {xs ys : List V} (h : Res K H ws o r) (hT : H T = some (.lst xs)) : Res K (upd H T (.lst ys)) ws o r := by
  rcases h with h | ⟨t, d, e, er, kvs, hd, h⟩
  · exact .inl h
  · exact .inr ⟨t, d, e, er, kvs, by rw [upd_ne (fun e => by rw [e, hT] at hd; cases hd)]; exact hd, h.mono (Tr.updL hT)⟩
theorem Tr.trans {K : PySem.W.Frag} {H H1 H2 : Hp} (h : Tr K H H1) (k : Tr K H1 H2) : Tr K H H2 := ⟨fun p xs e => k.1 p xs (h.1 p xs e), fun p xs e => k.2 p xs (h.2 p xs e)⟩
theorem Tr.refl (K : PySem.W.Frag) (H : Hp) : Tr K H H := ⟨fun _ _ h => h, fun _ _ h => h⟩
theorem res_eqx {K : PySem.W.Frag} {H : Hp} {ws : List Nm} {o : Option Sta} {r r' : V} {n : Nat} (h : Res K H ws o r) (h' : Res K H ws o r') (ne : ∀ d, r = .ref d → r' ≠ .ref d) (hl : ws.length ≤ 2) (hw : ∀ x ∈ ws, nameB x = true ∧ x.length ≤ 7) : EqX K H (n + 2) r r' := by
  rcases h with ⟨e, rfl⟩ | ⟨s, d, e, rfl, kvs, hk, hR⟩
  · rcases h' with ⟨e', rfl⟩ | ⟨s', d', e', rfl, _⟩
    · exact EqX.leaf ⟨rfl, .inl rfl⟩
    · rw [e] at e'
      cases e'
  · rcases h' with ⟨e', rfl⟩ | ⟨s', d', e', rfl, kvs', hk', hR'⟩
    · rw [e] at e'
      cases e'
    · rw [e] at e'
      cases e'
      refine .inr (.inr ⟨by omega, d, d', kvs, kvs', ws, rfl, rfl, fun z => ne d rfl (by rw [z]), hk, hk', hR.1, hR'.1, hl, fun x hx => strOk_name (hw x hx).1, fun x hx => ?_⟩)
      obtain ⟨p, e1, f1⟩ := hR.2.2 x hx
      obtain ⟨q, e2, f2⟩ := hR'.2.2 x hx
      exact ⟨p, q, [(s.1 x).1, (s.1 x).2], e1, e2, f1.1, f2.1, by show 2 ≤ 1000; decide⟩
theorem pw_cnt {p : Pg} (h : cnt p ≤ 3 * 3 ^ 2) : cnt p ≤ 40 := by
  have : (3 : Nat) * 3 ^ 2 = 27 := by decide
  omega
section
variable {P : Program} {w : World} {K : PySem.W.Frag} {mg : Str → Option Value} {base : Heap} {fa : Nat → Addr} {fd : Nat → FuncData}
theorem run_call {G : Hp} {pv : V} {d z : Addr} {p : Pg} {ws : List Nm} {v : Nm → FR} {us : List V} {cs : List FR} {Q : VK} {E : XK} (dt : Dt z G pv (.tuple (pgL p))) (ok : PgOk ws p) (dp : dep p ≤ 3) (ct : cnt p ≤ 40) (rd : RD K G d ws v) (vl : Vl 0 ws v)
    (hps : Paired (fun u f => ∃ p, u = V.ref p ∧ G p = some (trF f)) us cs) (hc : ∀ f ∈ cs, f ∈ CH) (ln : us.length ≤ 100) (wl : ws.length ≤ 100) (h : ∀ r G', Same G G' → Res K G' ws (go p (v, cs)) r → Fresh G r → Q r G') :
    ∃ y z rest, pv :: V.ref d :: us = y :: z :: rest ∧ rest.length ≤ sizeLine ∧ ∀ p, G p = none → spRp K [y, z, .ref p] (upd G p (.tup rest)) Q E := by
  refine ⟨pv, .ref d, us, rfl, small_line (by omega), fun cp ncp => ?_⟩
  have s := same_upd (o := HO.tup us) ncp
  refine ⟨pv, d, z, cp, p, ws, (v, cs), us, rfl, dt.same s, ok, dp, rd.same s, vl, upd_same, pair_imp (fun _ _ ⟨p, e, k⟩ => ⟨p, e, SqT.of (s _ _ k), .inr (s _ _ k)⟩) hps, hc, by rw [← Paired.length hps]; exact ln, ct, wl, fun e H' s' => h .non H' (s.trans s') (.inl ⟨e, rfl⟩) (fun d z => nomatch z), fun t e e2 H' s' n r => h (.ref e2) H' (s.trans s') (.inr ⟨t, e2, e, rfl, r⟩) (fun d' z => ?_)⟩
  cases z
  cases e3 : G e2 with
  | none => rfl
  | some o =>
    rw [s _ _ e3] at n
    cases n
theorem lrun_call {G : Hp} {pv : V} {d z cl : Addr} {p : Pg} {ws : List Nm} {v : Nm → FR} {us : List V} {cs : List FR} {Q : VK} {E : XK} (dt : Dt z G pv (.tuple (pgL p))) (ok : PgOk ws p) (dp : dep p ≤ 2) (ct : cnt p ≤ 40) (rd : RD K G d ws v) (vl : Vl 0 ws v)
    (hcl : G cl = some (.lst us)) (hps : Paired (fun u f => ∃ p, u = V.ref p ∧ G p = some (trF f)) us cs) (hc : ∀ f ∈ cs, f ∈ CH) (ln : us.length ≤ 100) (wl : ws.length ≤ 100) (h : ∀ r G', Same G G' → Res K G' ws (go p (v, cs)) r → Fresh G r → Q r G') :
    spLRun K [pv, .ref d, .ref cl] G Q E :=
  ⟨pv, d, z, cl, p, ws, (v, cs), rfl, dt, ok, dp, ⟨rd, ⟨us, hcl, hps⟩, vl, hc, by rw [← Paired.length hps]; exact ln⟩, ct, wl, fun e H' s' => h .non H' s' (.inl ⟨e, rfl⟩) (fun d z => nomatch z), fun t e e2 H' s' n r => h (.ref e2) H' s' (.inr ⟨t, e2, e, rfl, r⟩) (fun d' z => by cases z; exact n)⟩
end
theorem sl_listK {X : Cx} {K : PySem.W.Frag} (h : X.K = K) : SlR X (rSlL K) := h ▸ sl_list
theorem cut_take (xs : List V) (m : Nat) : cutV xs none (some (m : Int)) = xs.take m := by
  unfold cutV
  rw [show HT.sIx xs.length xs.length (some (m : Int)) = min m xs.length from HT.sIx_nat xs.length xs.length m, HT.sIx_none]
  show xs.take (min m xs.length) = xs.take m
  rw [List.take_eq_take_iff]
  omega
theorem paired_take {α β : Type} {R : α → β → Prop} {as : List α} {bs : List β} (h : Paired R as bs) : ∀ m, Paired R (as.take m) (bs.take m) := by
  induction h with
  | nil =>
    intro m
    rw [List.take_nil, List.take_nil]
    exact .nil
  | cons h _ ih =>
    intro m
    cases m with
    | zero => exact .nil
    | succ m => exact .cons h (ih m)
theorem paired_get {α β : Type} {R : α → β → Prop} {as : List α} {bs : List β} (h : Paired R as bs) : ∀ {i : Nat} {a : α}, as[i]? = some a → ∃ b, bs[i]? = some b ∧ R a b := by
  induction h with
  | nil => intro i a e; cases e
  | cons h _ ih =>
    intro i a e
    cases i with
    | zero =>
      cases e
      exact ⟨_, rfl, h⟩
    | succ i =>
      obtain ⟨b, e2, k⟩ := ih (i := i) (a := a) (by simpa using e)
      exact ⟨b, by simpa using e2, k⟩
/-- what stays while the program is run -/
structure Iv (K : PySem.W.Frag) (a c d L : Addr) (kvs : List (Key × V)) (us : List V) (G0 G : Hp) : Prop where
  f : FeedOk G a c
  d : G d = some (.dK kvs)
  l : G L = some (.lst us)
  t : Tr K G0 G
theorem Iv.same {K : PySem.W.Frag} {a c d L : Addr} {kvs : List (Key × V)} {us : List V} {G0 G G' : Hp} (h : Iv K a c d L kvs us G0 G) (s : Same G G') : Iv K a c d L kvs us G0 G' := ⟨h.f.same s, s _ _ h.d, s _ _ h.l, h.t.trans (Tr.sm s)⟩
theorem Iv.updL {K : PySem.W.Frag} {a c d L T : Addr} {kvs : List (Key × V)} {us xs ys : List V} {G0 G : Hp} (h : Iv K a c d L kvs us G0 G) (hT : G T = some (.lst xs)) (na : T ≠ a) (nc : T ≠ c) (nl : T ≠ L) : Iv K a c d L kvs us G0 (upd G T (.lst ys)) :=
  ⟨h.f.put na nc, by rw [upd_ne (fun e => by have := h.d; rw [e, hT] at this; cases this)]; exact h.d, by rw [upd_ne nl.symm]; exact h.l, h.t.trans (Tr.updL hT)⟩
theorem Iv.updD {K : PySem.W.Frag} {a c d L e : Addr} {kvs ks ks' : List (Key × V)} {us : List V} {G0 G : Hp} (h : Iv K a c d L kvs us G0 G) (he : G e = some (.dK ks)) (nd : e ≠ d) : Iv K a c d L kvs us G0 (upd G e (.dK ks')) := by
  have na : e ≠ a := fun z => by
    obtain ⟨_, _, _, _, h1, _⟩ := h.f
    rw [← z, he] at h1
    cases h1
  have nc : e ≠ c := fun z => by
    obtain ⟨_, _, _, _, _, h1, _⟩ := h.f
    rw [← z, he] at h1
    cases h1
  refine ⟨h.f.put na nc, by rw [upd_ne nd.symm]; exact h.d, ?_, h.t.trans (Tr.updD he)⟩
  rw [upd_ne (fun z => by have := h.l; rw [z, he] at this; cases this)]
  exact h.l
def PC : List FR := [(0, 1), (1, 1), (-1, 2), (3, 1), (0, 1), (2, 3)]
theorem pc_ch : ∀ f ∈ PC, f ∈ CH := by
  intro f hf
  simp only [PC, List.mem_cons, List.not_mem_nil, or_false] at hf
  unfold CH
  rcases hf with rfl | rfl | rfl | rfl | rfl | rfl <;> simp
theorem six {α β : Type} {R : α → β → Prop} {as : List α} {bs : List β} (h : Paired R as bs) (l : bs.length = 6) : ∃ a0 a1 a2 a3 a4 a5 b0 b1 b2 b3 b4 b5, as = [a0, a1, a2, a3, a4, a5] ∧ bs = [b0, b1, b2, b3, b4, b5] ∧ R a0 b0 ∧ R a1 b1 ∧ R a2 b2 ∧ R a3 b3 ∧ R a4 b4 ∧ R a5 b5 := by
  match bs, l, h with
  | [_, _, _, _, _, _], _, .cons h0 (.cons h1 (.cons h2 (.cons h3 (.cons h4 (.cons h5 .nil))))) => exact ⟨_, _, _, _, _, _, _, _, _, _, _, _, rfl, rfl, h0, h1, h2, h3, h4, h5⟩
theorem Tr.but {K : PySem.W.Frag} {a c : Addr} {H H' : Hp} (hF : FeedOk H a c) (b : But a H H') : Tr K H H' := by
  obtain ⟨_, _, _, _, h1, _⟩ := hF
  refine ⟨fun p zs q => ?_, fun p zs q => b _ _ (fun e => by rw [e, h1] at q; cases q) q⟩
  rcases q with (q | ⟨o, q⟩) | q
  · exact .inl (.inl (b _ _ (fun e => by rw [e, h1] at q; cases q) q))
  · exact .inl (.inr ⟨o, b _ _ (fun e => by rw [e, h1] at q; cases q) q⟩)
  · exact .inr q
theorem RD.but {K : PySem.W.Frag} {a c d : Addr} {H H' : Hp} {ws : List Nm} {v : Nm → FR} (h : RD K H d ws v) (hF : FeedOk H a c) (b : But a H H') : RD K H' d ws v := by
  obtain ⟨kvs, hd, hR⟩ := h
  refine ⟨kvs, b _ _ (fun e => ?_) hd, hR.mono (Tr.but hF b)⟩
  obtain ⟨_, _, _, _, h1, _⟩ := hF
  rw [e, h1] at hd
  cases hd
theorem rd_okv {K : PySem.W.Frag} {H : Hp} {kvs : List (Key × V)} {ws : List Nm} {v : Nm → FR} (h : RDk K H kvs ws v) : ∀ p ∈ kvs, valV kvs p.1 = some p.2 ∧ okV p.2 := fun p hp => by
  have nk : (kvs.map (·.1)).Nodup := by
    rw [h.1]
    rw [List.Nodup, List.pairwise_map]
    exact List.Pairwise.imp (fun h z => h (key_inj z)) h.2.1
  have e := val_nodup nk p hp
  refine ⟨e, ?_⟩
  have hk : p.1 ∈ kvs.map (·.1) := List.mem_map_of_mem (f := fun p : Key × V => p.1) hp
  rw [h.1] at hk
  obtain ⟨x, hx, ex⟩ := List.mem_map.mp hk
  obtain ⟨q, e2, _⟩ := h.2.2 x hx
  rw [ex, e] at e2
  exact .inr ⟨q, Option.some.inj e2⟩
theorem rep0_ok {ws : List Nm} {p : Pg} (h : PgOk ws p) (l : lnP p ≤ 10) : PgOk ws (.rep 0 p .nil) := ⟨⟨Nat.zero_le _, l, h⟩, trivial⟩
theorem lw_nm {x : List Nat} (h : LW x) : nameB x = true ∧ x.length ≤ 7 := by
  have := name_lw h (k := 0) (by decide)
  rw [List.replicate_zero, List.append_nil] at this
  exact this
/-! ### the written program -/
theorem sx_x : (Str.ofString "x" : Str) = SX.S [120] := by decide +kernel
theorem sx_y : (Str.ofString "y" : Str) = SX.S [121] := by decide +kernel
def pg0 : Pg := .any [120] (.set [121] ⟨(1, 1), [120], (0, 1)⟩ ⟨(1, 1), [120], (3, 1)⟩ .nil)
def ws0 : List Nm := [[120], [121]]
theorem lit_pg0 : (.tuple [.tuple [.str (Str.ofString "any"), .str (Str.ofString "x")], .tuple [.str (Str.ofString "set"), .str (Str.ofString "y"), .tuple [.tuple [.int 1, .int 1], .str (Str.ofString "x"), .tuple [.int 0, .int 1]], .tuple [.tuple [.int 1, .int 1], .str (Str.ofString "x"), .tuple [.int 3, .int 1]]]] : PyData) = .tuple (pgL pg0) := by
  rw [sx_x, sx_y]
  rfl
theorem ok_pg0 : PgOk ws0 pg0 := by
  have f : ∀ n : FR, Nf n → n.2 ∣ 2 → (n.1.natAbs : Int) ≤ 4 * n.2 → FmOk ws0 ⟨(1, 1), [120], n⟩ := fun n h1 h2 h3 =>
    ⟨by simp, fun _ => by unfold ws0; simp, ⟨fun h => absurd (show ((1 : Int), (1 : Int)) = (0, 1) from h) (by decide), fun h => absurd (show ([120] : List Nat) = [] from h) (by decide)⟩, h1, h2, h3⟩
  refine ⟨by unfold ws0; simp, ⟨by unfold ws0; simp, f _ ?_ ?_ ?_, f _ ?_ ?_ ?_⟩, trivial⟩ <;> first | decide +kernel | (unfold Nf; decide +kernel)
def st0 : Sta := (setV (setV (fun _ => (0, 1)) [120] (5, 1)) [121] (7, 1), [])
theorem go_pg0 : go pg0 (fun _ => (0, 1), [(5, 1), (1, 2)]) = some st0 := by
  show (setS [121] ⟨(1, 1), [120], (0, 1)⟩ ⟨(1, 1), [120], (3, 1)⟩ (setV (fun _ => (0, 1)) [120] (5, 1), [(1, 2)])).bind some = some st0
  unfold setS
  rw [if_neg (by decide +kernel)]
  have e : addL (fvl ⟨(1, 1), [120], (0, 1)⟩ (setV (fun _ => (0, 1)) [120] (5, 1))) (mulL (shr (1, 2)) (subL (fvl ⟨(1, 1), [120], (3, 1)⟩ (setV (fun _ => (0, 1)) [120] (5, 1))) (fvl ⟨(1, 1), [120], (0, 1)⟩ (setV (fun _ => (0, 1)) [120] (5, 1))))) = (7, 1) := by decide +kernel
  show some (setV (setV (fun _ => (0, 1)) [120] (5, 1)) [121] (addL (fvl ⟨(1, 1), [120], (0, 1)⟩ (setV (fun _ => (0, 1)) [120] (5, 1))) (mulL (shr (1, 2)) (subL (fvl ⟨(1, 1), [120], (3, 1)⟩ (setV (fun _ => (0, 1)) [120] (5, 1))) (fvl ⟨(1, 1), [120], (0, 1)⟩ (setV (fun _ => (0, 1)) [120] (5, 1)))))), []) = some st0
  rw [e]
  rfl
theorem disp_two {H : Hp} {p q1 q2 : Addr} {o1 o2 : HO} {ks : List (Key × V)} (n0 : H p = none) (n1 : (upd H p (.dK [])) q1 = none) (n2 : (upd (upd H p (.dK [])) q1 o1) q2 = none) :
    (upd (upd (upd H p (.dK [])) q1 o1) q2 o2) p = some (.dK []) ∧ Same H (upd (upd (upd (upd H p (.dK [])) q1 o1) q2 o2) p (.dK ks)) ∧ (upd (upd (upd (upd H p (.dK [])) q1 o1) q2 o2) p (.dK ks)) p = some (.dK ks) ∧
    (upd (upd (upd (upd H p (.dK [])) q1 o1) q2 o2) p (.dK ks)) q1 = some o1 ∧ (upd (upd (upd (upd H p (.dK [])) q1 o1) q2 o2) p (.dK ks)) q2 = some o2 := by
  have s1 := same_upd (o := o1) n1
  have s2 := same_upd (o := o2) n2
  have a1 : q1 ≠ p := fun e => by rw [e, upd_same] at n1; cases n1
  have hp1 := s1 _ _ (upd_same (H := H) (a := p) (o := .dK []))
  have a2 : q2 ≠ p := fun e => by rw [e, hp1] at n2; cases n2
  refine ⟨s2 _ _ hp1, fun b o e => ?_, upd_same, ?_, ?_⟩
  · rw [upd_ne (ne_of_none e n0)]
    exact s2 _ _ (s1 _ _ (same_upd n0 _ _ e))
  · rw [upd_ne a1]
    exact s2 _ _ upd_same
  · rw [upd_ne a2]
    exact upd_same
theorem rd_two {K : PySem.W.Frag} {H : Hp} {d q1 q2 : Addr} {v : Nm → FR} (hd : H d = some (.dK (mergeK [] [(.inr (Str.ofString "x"), .ref q1), (.inr (Str.ofString "y"), .ref q2)]))) (h1 : H q1 = some (trF (v [120]))) (h2 : H q2 = some (trF (v [121]))) : RD K H d ws0 v := by
  have nk : ([(keyOf [120], V.ref q1), (keyOf [121], V.ref q2)].map (·.1)).Nodup := by
    show [keyOf [120], keyOf [121]].Nodup
    rw [List.nodup_cons]
    exact ⟨fun h => absurd (key_inj (List.mem_singleton.mp h)) (by decide), List.pairwise_singleton _ _⟩
  rw [sx_x, sx_y] at hd
  have e := merge_nodup [(keyOf [120], V.ref q1), (keyOf [121], V.ref q2)] [] nk
  have hd : H d = some (.dK (mergeK [] [(keyOf [120], V.ref q1), (keyOf [121], V.ref q2)])) := hd
  rw [e] at hd
  refine ⟨_, hd, rfl, by unfold ws0; decide, fun x hx => ?_⟩
  unfold ws0 at hx
  rcases List.mem_cons.mp hx with rfl | hx
  · exact ⟨q1, val_nodup nk (keyOf [120], V.ref q1) List.mem_cons_self, SqT.of h1, .inr h1⟩
  · rw [List.mem_singleton.mp hx]
    exact ⟨q2, val_nodup nk (keyOf [121], V.ref q2) (List.mem_cons_of_mem _ List.mem_cons_self), SqT.of h2, .inr h2⟩
theorem vl0 : Vl 0 ws0 (fun _ => (0, 1)) := fun x _ => ch_lv List.mem_cons_self 0
section
variable {P : Program} {w : World} {K : PySem.W.Frag} {mg : Str → Option Value} {base : Heap} {fa : Nat → Addr} {fd : Nat → FuncData}
def spLaw (K : PySem.W.Frag) : Sp := fun vs H Q _ => ∃ (a : Addr) (ns : List Int), vs = [.ref a] ∧ SqL K H a (ns.map V.int) ∧ ns.length ≤ 63 ∧ ∀ H', Q (.bl true) H'
theorem ok_p_law (T : Txt K mg fa fd) : FnOk P w K mg base CX0 17 (fa 50) (fd 50) ["_law_script"] (spLaw K) := by
  refine T.F_p_law.ok sc_p_law (fun vs H Q E h => ?_) (fun cdv A outer s H vs Q E hr h => ?_)
  · obtain ⟨a, ns, rfl, _⟩ := h
    rfl
  · obtain ⟨s0, ns, rfl, hS, hlen, q⟩ := h
    refine ⟨_, (C8.pss_cut (ps_set (i := 1) sc_p_law.nd rfl (.inr rfl) (pe_call (ok_feed T) (hr.mono (by decide)) (by rfl) T.g_feed T.F_feed.kp T.b_feed .nil pass0 (pa_cons (pv 0) pa_nil)))
      (C8.pss_cut (ps_for PassesOwn.never rfl (pi_range1 (by rfl) T.m_range (pa_cons pe_int pa_nil)) (pg_name (i := 2) sc_p_law.nd rfl (.inl rfl)) (C8.pss_cut (ps_set (i := 3) sc_p_law.nd rfl (.inl rfl) (pe_call (ok_words T) (hr.mono (by decide)) (by rfl) T.g_words T.F_words.kp T.b_words .nil pass0 (pa_cons (pv 1) (pa_cons (pe_op op_add pe_int (pe_call (ok_draw T) (hr.mono (by decide)) (by rfl) T.g_draw T.F_draw.kp T.b_draw .nil pass0 (pa_cons (pv 1) (pa_cons pe_int pa_nil)))) pa_nil))))
      (C8.pss_cut (ps_asg (pe_tup (pa_cons (pe_call (ok_program T) (hr.mono (by decide)) (by rfl) T.g_program T.F_program.kp T.b_program .nil pass0 (pa_cons (pv 1) (pa_cons (pv 3) (pa_cons pe_int (pa_cons pe_int pa_nil))))) (pa_cons (pe_call (ok_point T) (hr.mono (by decide)) (by rfl) T.g_point T.F_point.kp T.b_point .nil pass0 (pa_cons (pv 1) (pa_cons (pv 3) pa_nil))) pa_nil))) (pg_tup (by rfl) (pgs_cons (pg_name (i := 4) sc_p_law.nd rfl (.inr rfl)) (pgs_cons (pg_name (i := 5) sc_p_law.nd rfl (.inr rfl)) pgs_nil))))
      (C8.pss_cut (ps_set (i := 6) sc_p_law.nd rfl (.inr rfl) (pe_lc (own := [("_law_k", 18)]) (g := gName 18) (tt := tYes) rfl sc_p_law.nd (pi_range1 (by rfl) T.m_range (pa_cons pe_int pa_nil)) (blkOk_by (own := [("_law_k", 18)]) (N := ["_law_script", "_law_feed_here", "_law_turn", "_law_words_here", "_law_program_here", "_law_values", "_law_picks", "_law_kept", "_law_a", "_law_b", "_law_c", "_law_d", "_law_e", "_law_f", "_law_told", "_law_due", "_law_some", "_law_found", "_law_k", "_law_many"]) (sc := defScope s_p_law) (by decide +kernel)) (fun _ _ _ _ _ => pg_name (i := 18) sc_p_law.nd rfl (Or.inl rfl)) (fun _ _ _ _ _ => pts_nil) (fun _ _ _ _ _ => (pe_call (ok_any T) (hr.mono (by decide)) (by rfl) T.g_any T.F_any.kp T.b_any .nil pass0 (pa_cons (pv 1) (pa_cons (pe_lst (pa_cons (pe_tup (pa_cons pe_int (pa_cons pe_int pa_nil))) (pa_cons (pe_tup (pa_cons pe_int (pa_cons pe_int pa_nil))) (pa_cons (pe_tup (pa_cons (pe_un un_neg pe_int) (pa_cons pe_int pa_nil))) (pa_cons (pe_tup (pa_cons pe_int (pa_cons pe_int pa_nil))) (pa_cons (pe_tup (pa_cons pe_int (pa_cons pe_int pa_nil))) (pa_cons (pe_tup (pa_cons pe_int (pa_cons pe_int pa_nil))) pa_nil))))))) pa_nil))))))
      (C8.pss_cut (ps_asg (pe_tup (pa_cons (pe_callTy call_dictD (by rfl) T.m_dict (by decide +kernel) (pa_cons (pv 5) pa_nil)) (pa_cons (pe_ix ix_list (pv 6) pe_int (fun _ _ => rfl)) (pa_cons (pe_ix ix_list (pv 6) pe_int (fun _ _ => rfl)) (pa_cons (pe_ix ix_list (pv 6) pe_int (fun _ _ => rfl)) pa_nil))))) (pg_tup (by rfl) (pgs_cons (pg_name (i := 7) sc_p_law.nd rfl (.inl rfl)) (pgs_cons (pg_name (i := 8) sc_p_law.nd rfl (.inl rfl)) (pgs_cons (pg_name (i := 9) sc_p_law.nd rfl (.inl rfl)) (pgs_cons (pg_name (i := 10) sc_p_law.nd rfl (.inl rfl)) pgs_nil))))))
      (C8.pss_cut (ps_asg (pe_slice sl_list (pv 6) (po_some pe_int) po_none) (pg_lst (by rfl) (pgs_cons (pg_name (i := 11) sc_p_law.nd rfl (.inl rfl)) (pgs_cons (pg_name (i := 12) sc_p_law.nd rfl (.inl rfl)) (pgs_cons (pg_name (i := 13) sc_p_law.nd rfl (.inl rfl)) pgs_nil)))))
      (C8.pss_cut (ps_set (i := 14) sc_p_law.nd rfl (.inl rfl) (pe_lst (pa_cons (pe_callR (ok_p_run_program T) (hr.mono (by decide)) (by rfl) T.g_p_run_program T.F_p_run_program.kp pass0 (pa_cons (pv 4) (pa_cons (pv 5) pa_nil))) (pa_cons (pe_callR (ok_p_run_program T) (hr.mono (by decide)) (by rfl) T.g_p_run_program T.F_p_run_program.kp pass0 (pa_cons (pv 4) (pa_cons (pv 5) (pa_cons (pv 8) pa_nil)))) (pa_cons (pe_callR (ok_p_run_program T) (hr.mono (by decide)) (by rfl) T.g_p_run_program T.F_p_run_program.kp pass0 (pa_cons (pv 4) (pa_cons (pv 5) (pa_cons (pv 8) (pa_cons (pv 9) (pa_cons (pv 10) pa_nil)))))) pa_nil)))))
      (C8.pss_cut (ps_expr (pe_bm PySem.F.plainAttrs_list PySem.F.slot_list_append PySem.F.type_list_append mt_append (pv 14) (pa_cons (pe_callR (ok_p_run_program T) (hr.mono (by decide)) (by rfl) T.g_p_run_program T.F_p_run_program.kp pass0 (pa_cons (pv 4) (pa_cons (pv 5) (pa_cons (pv 8) (pa_cons (pv 9) (pa_cons (pv 10) (pa_cons (pv 11) (pa_cons (pv 12) (pa_cons (pv 13) pa_nil))))))))) pa_nil)))
      (C8.pss_cut (ps_setLc (i := 15) (own := [("_law_many", 19)]) (g := gName 19) (tt := tYes) rfl sc_p_law.nd rfl rfl (sw_true rfl rfl rfl (by decide +kernel)) (pi_tup (pe_tup (pa_cons pe_int (pa_cons pe_int (pa_cons pe_int (pa_cons pe_int pa_nil)))))) (blkOk_by (own := [("_law_many", 19)]) (N := ["_law_script", "_law_feed_here", "_law_turn", "_law_words_here", "_law_program_here", "_law_values", "_law_picks", "_law_kept", "_law_a", "_law_b", "_law_c", "_law_d", "_law_e", "_law_f", "_law_told", "_law_due", "_law_some", "_law_found", "_law_k", "_law_many"]) (sc := defScope s_p_law) (by decide +kernel)) (fun _ _ _ _ _ => pg_name (i := 19) sc_p_law.nd rfl (Or.inl rfl)) (fun _ _ _ _ _ => pts_nil) (fun _ _ _ _ _ => (pe_call (ok_run T) (hr.mono (by decide)) (by rfl) T.g_run T.F_run.kp T.b_run .nil pass0 (pa_cons (pv 4) (pa_cons (pv 5) (pa_cons (pe_slice (sl_listK (K := K) rfl) (pv 6) po_none (po_some (pv 19))) pa_nil))))))
      (C8.pss_cut (ps_if (PW.pt (pw_or (pt_not (pt_val (pe_call (ok_sameX T 4) (hr.mono (by decide)) (by rfl) T.g_same T.F_same.kp T.b_same .nil pass0 (pa_cons (pv 14) (pa_cons (pv 15) pa_nil))))) (pw_or1 (pt_cmpR (op_ne_dictR (Nat.lt_of_le_of_lt (Nat.le_add_right _ _) hr.units)) (pv 5) (pv 7) (nomark _))))) (pss_one (ps_ret pe_bl)) pss_nil)
      (pss_one (ps_for PassesOwn.never rfl (pi_tup (pe_tup (pa_cons (pe_tup pa_nil) (pa_cons (pe_tup (pa_cons (pe_tup (pa_cons pe_str (pa_cons pe_int (pa_cons (pv 4) pa_nil)))) pa_nil)) (pa_cons (pv 4) pa_nil))))) (pg_name (i := 16) sc_p_law.nd rfl (.inl rfl)) (C8.pss_cut (ps_set (i := 17) sc_p_law.nd rfl (.inl rfl) (pe_callR (ok_p_run_program T) (hr.mono (by decide)) (by rfl) T.g_p_run_program T.F_p_run_program.kp pass0 (pa_cons (pv 16) (pa_cons (pv 5) (pa_cons (pv 8) (pa_cons (pv 9) (pa_cons (pv 10) pa_nil)))))))
      (C8.pss_cut (ps_if (pt_cmpR op_notN (pv 17) pe_non (nomark _)) (pss_one (ps_expr (pe_dclear (pv 17)))) pss_nil)
      (pss_one (ps_if (pt_cmpR (op_ne_dictR (Nat.lt_of_le_of_lt (Nat.le_add_right _ _) hr.units)) (pv 5) (pv 7) (nomark _)) (pss_one (ps_ret pe_bl)) pss_nil))))))))))))))))
      (pss_one (ps_ret (pe_call (ok_sameX T 4) (hr.mono (by decide)) (by rfl) T.g_same T.F_same.kp T.b_same .nil pass0 (pa_cons (pe_callR (ok_p_run_program T) (hr.mono (by decide)) (by rfl) T.g_p_run_program T.F_p_run_program.kp pass0 (pa_cons (pe_tup (pa_cons (pe_tup (pa_cons pe_str (pa_cons pe_str pa_nil))) (pa_cons (pe_tup (pa_cons pe_str (pa_cons pe_str (pa_cons (pe_tup (pa_cons (pe_tup (pa_cons pe_int (pa_cons pe_int pa_nil))) (pa_cons pe_str (pa_cons (pe_tup (pa_cons pe_int (pa_cons pe_int pa_nil))) pa_nil)))) (pa_cons (pe_tup (pa_cons (pe_tup (pa_cons pe_int (pa_cons pe_int pa_nil))) (pa_cons pe_str (pa_cons (pe_tup (pa_cons pe_int (pa_cons pe_int pa_nil))) pa_nil)))) pa_nil))))) pa_nil))) (pa_cons (pe_disp (pps_cons pe_str (pe_tup (pa_cons pe_int (pa_cons pe_int pa_nil))) (pps_cons pe_str (pe_tup (pa_cons pe_int (pa_cons pe_int pa_nil))) pps_nil)) (by rfl) (by rfl) (fun z => by cases z) (by decide)) (pa_cons (pe_tup (pa_cons pe_int (pa_cons pe_int pa_nil))) (pa_cons (pe_tup (pa_cons pe_int (pa_cons pe_int pa_nil))) pa_nil))))) (pa_cons (pe_disp (pps_cons pe_str (pe_tup (pa_cons pe_int (pa_cons pe_int pa_nil))) (pps_cons pe_str (pe_tup (pa_cons pe_int (pa_cons pe_int pa_nil))) pps_nil)) (by rfl) (by rfl) (fun z => by cases z) (by decide)) pa_nil))))))), ?_⟩
    refine ⟨fun σ H1 => ∃ a c, σ = [some (.ref s0), some (.ref a), none, none, none, none, none, none, none, none, none, none, none, none, none, none, none, none, none, none] ∧ FeedOk H1 a c, ⟨_, rfl, s0, ns, rfl, hS, hlen, fun a c H1 _ _ s1 hF => ⟨a, c, rfl, hF⟩⟩, fun σ H1 hM => ?_⟩
    obtain ⟨a, c, rfl, hF⟩ := hM
    refine ⟨fun σ H2 => ∃ y2 y3 y4 y5 y6 y7 y8 y9 y10 y11 y12 y13 y14 y15 y16 y17 y18 y19, σ = [some (.ref s0), some (.ref a), y2, y3, y4, y5, y6, y7, y8, y9, y10, y11, y12, y13, y14, y15, y16, y17, y18, y19], ?_, fun σ H2 hM => ?_⟩
    · refine ⟨5, rfl, by decide, by decide, for_range (n := 5) (fun i σ H2 => FeedOk H2 a c ∧ ∃ y2 y3 y4 y5 y6 y7 y8 y9 y10 y11 y12 y13 y14 y15 y16 y17 y18 y19, σ = [some (.ref s0), some (.ref a), y2, y3, y4, y5, y6, y7, y8, y9, y10, y11, y12, y13, y14, y15, y16, y17, y18, y19]) ⟨hF, _, _, _, _, _, _, _, _, _, _, _, _, _, _, _, _, _, _, rfl⟩ (fun i σ H2 hi hp => ?_) (fun σ H2 hp => hp.2)⟩
      obtain ⟨hF2, y2, y3, y4, y5, y6, y7, y8, y9, y10, y11, y12, y13, y14, y15, y16, y17, y18, y19, rfl⟩ := hp
      -- words
      refine ⟨fun σ H3 => FeedOk H3 a c ∧ ∃ (p : Addr) (ws : List (List Nat)) (y2 : Option V), p ≠ a ∧ H3 p = some (.lst (ws.map vS)) ∧ ws ≠ [] ∧ ws.length ≤ 2 ∧ ws.Nodup ∧ (∀ x ∈ ws, nameB x = true ∧ x.length ≤ 7) ∧ σ = [some (.ref s0), some (.ref a), y2, some (.ref p), y4, y5, y6, y7, y8, y9, y10, y11, y12, y13, y14, y15, y16, y17, y18, y19], ?_, fun σ H3 hM => ?_⟩
      · refine ⟨_, rfl, _, rfl, a, c, _, rfl, hF2, mid_of (by decide) (by decide), fun r H3 r0 r1 hF3 b3 => ?_⟩
        obtain ⟨k, rfl⟩ := Int.eq_ofNat_of_zero_le r0
        refine ⟨_, _, rfl, rfl, a, c, 1 + k, by rw [Int.natCast_add]; rfl, hF3, by omega, fun p ws H4 hF4 _ npa hp hl hn hw => ⟨hF4, p, ws, _, npa, hp, fun z => ?_, by omega, hn, fun x hx => lw_nm (hw x hx), rfl⟩⟩
        rw [z] at hl
        rw [List.length_nil] at hl
        omega
      clear hF2 H2 y2 y3
      obtain ⟨hF3, W, ws, y2, nWa, hW, wne, wl, wnd, hw, rfl⟩ := hM
      -- program and values
      refine ⟨fun σ H4 => FeedOk H4 a c ∧ ∃ (pv : V) (p : Pg) (d : Addr) (v : Nm → FR), Dt a H4 pv (.tuple (pgL p)) ∧ PgOk ws p ∧ dep p ≤ 2 ∧ cnt p ≤ 40 ∧ lnP p ≤ 10 ∧ RD K H4 d ws v ∧ Vl 0 ws v ∧ σ = [some (.ref s0), some (.ref a), y2, some (.ref W), some pv, some (.ref d), y6, y7, y8, y9, y10, y11, y12, y13, y14, y15, y16, y17, y18, y19], ?_, fun σ H4 hM => ?_⟩
      · refine ⟨_, rfl, _, rfl, a, c, W, ws, 3, rfl, hF3, nWa, hW, wne, by omega, wnd, hw, by decide, by decide, fun pv p H4 hF4 b4 dt ok dp ct ln => ?_⟩
        refine ⟨_, rfl, _, rfl, a, c, W, ws, rfl, hF4, nWa, b4 _ _ nWa hW, wnd, by omega, fun d v H5 hF5 b5 nd rd vl => ⟨two_line, fun o no => ?_⟩⟩
        have so := same_upd (o := HO.tup [pv, V.ref d]) no
        exact ⟨o, _, rfl, SqT.of upd_same, rfl, _, _, rfl, _, _, rfl, rfl, hF5.same so, pv, p, d, v, (dt.but hF4 b5).same so, ok, dp, pw_cnt ct, by omega, RD.same rd so, vl, rfl⟩
      clear hF3 hW H3
      obtain ⟨hF4, pv, p, d, v, dt4, ok, dp, ct, lnp, rd4, vl, rfl⟩ := hM
      -- picks
      refine ⟨fun σ G => FeedOk G a c ∧ But a H4 G ∧ ∃ (L : Addr) (us : List V) (fs : List FR), G L = some (.lst us) ∧ Paired (fun u f => ∃ p, u = V.ref p ∧ G p = some (trF f)) us fs ∧ fs.length = 6 ∧ (∀ f ∈ fs, f ∈ PC) ∧ σ = [some (.ref s0), some (.ref a), y2, some (.ref W), some pv, some (.ref d), some (.ref L), y7, y8, y9, y10, y11, y12, y13, y14, y15, y16, y17, y18, y19], ?_, fun σ G hM => ?_⟩
      · refine ⟨6, rfl, by decide, by decide, fun L nL => ?_⟩
        have nLa := new_ne hF4 nL
        have nLc := new_nc hF4 nL
        refine lc_range (n := 6) (fun i G => FeedOk G a c ∧ But a H4 G ∧ ∃ (us : List V) (fs : List FR), G L = some (.lst us) ∧ Paired (fun u f => ∃ p, u = V.ref p ∧ G p = some (trF f)) us fs ∧ fs.length = i ∧ (∀ f ∈ fs, f ∈ PC))
          ⟨hF4.new nL, But.of (same_upd nL), [], [], upd_same, .nil, rfl, fun f h => by cases h⟩ (fun i G hi hq => ?_) (fun G hq => ?_)
        · obtain ⟨hG, bG, us, fs, hL, hps, hl, hfs⟩ := hq
          refine ⟨rfl, ?_⟩
          refine ⟨_, rfl, (small_line (by decide : 2 ≤ 1000)), fun p1 n1 => ?_⟩
          obtain ⟨s1, d1⟩ := dnewT (z := a) n1 (.cons (.int 0 (by decide +kernel)) (.cons (.int 1 (by decide +kernel)) .nil))
          refine ⟨(small_line (by decide : 2 ≤ 1000)), fun p2 n2 => ?_⟩
          obtain ⟨s2, d2⟩ := dnewT (z := a) n2 (.cons (.int 1 (by decide +kernel)) (.cons (.int 1 (by decide +kernel)) .nil))
          refine ⟨_, rfl, (small_line (by decide : 2 ≤ 1000)), fun p3 n3 => ?_⟩
          obtain ⟨s3, d3⟩ := dnewT (z := a) n3 (.cons (.int (-1) (by decide +kernel)) (.cons (.int 2 (by decide +kernel)) .nil))
          refine ⟨(small_line (by decide : 2 ≤ 1000)), fun p4 n4 => ?_⟩
          obtain ⟨s4, d4⟩ := dnewT (z := a) n4 (.cons (.int 3 (by decide +kernel)) (.cons (.int 1 (by decide +kernel)) .nil))
          refine ⟨(small_line (by decide : 2 ≤ 1000)), fun p5 n5 => ?_⟩
          obtain ⟨s5, d5⟩ := dnewT (z := a) n5 (.cons (.int 0 (by decide +kernel)) (.cons (.int 1 (by decide +kernel)) .nil))
          refine ⟨(small_line (by decide : 2 ≤ 1000)), fun p6 n6 => ?_⟩
          obtain ⟨s6, d6⟩ := dnewT (z := a) n6 (.cons (.int 2 (by decide +kernel)) (.cons (.int 3 (by decide +kernel)) .nil))
          refine ⟨(small_line (by decide : 6 ≤ 1000)), fun p7 n7 => ?_⟩
          obtain ⟨s7, all, hrw⟩ := drow (z := a) n7 (.cons (d1.same (s2.trans (s3.trans (s4.trans (s5.trans s6))))) (.cons (d2.same (s3.trans (s4.trans (s5.trans s6)))) (.cons (d3.same (s4.trans (s5.trans s6))) (.cons (d4.same (s5.trans s6)) (.cons (d5.same s6) (.cons d6 .nil))))))
          have sR := (s1.trans (s2.trans (s3.trans (s4.trans (s5.trans (s6.trans s7))))))
          refine ⟨a, c, p7, _, rfl, hG.same sR, hrw, new_ne (hG.same (s1.trans (s2.trans (s3.trans (s4.trans (s5.trans s6)))))) n7, by show 0 < 6; decide, by show 6 ≤ 1000; decide, fun x H2 hx hF2 b2 => ?_⟩
          obtain ⟨D, hD, h⟩ := all.mem hx
          have h2 := h.but (hG.same sR) b2
          have hD : D ∈ PC.map frP := hD
          obtain ⟨f, hf, rfl⟩ := List.mem_map.mp hD
          obtain ⟨pf, rfl, hpf⟩ := dt_fr h2
          have bb := (But.of (a := a) sR).trans b2
          have tt := TT.but hG bb
          have hL2 := bb _ _ nLa hL
          have ul : us.length = i := by rw [Paired.length hps, hl]
          have tu := TT.upd (zs := us ++ [V.ref pf]) hL2
          refine ⟨us, hL2, small1000 (by omega), hF2.put nLa nLc, (bG.trans bb).updN nL, us ++ [.ref pf], fs ++ [f], upd_same, paired_snoc (paired_mono (fun _ _ ⟨p, e, k⟩ => ⟨p, e, tu _ _ (tt _ _ k)⟩) hps) ⟨pf, rfl, tu _ _ hpf⟩, by rw [List.length_append, hl]; rfl, fun g hg => ?_⟩
          rcases List.mem_append.mp hg with h | h
          · exact hfs g h
          · rw [List.mem_singleton.mp h]
            exact hf
        · obtain ⟨hG, bG, us, fs, hL, hps, hl, hfs⟩ := hq
          exact ⟨hG, bG, L, us, fs, hL, hps, hl, hfs, rfl⟩
      obtain ⟨hF, bG, L, us, fs, hL, hps, hl6, hfs, rfl⟩ := hM
      have dt := dt4.but hF4 bG
      obtain ⟨kvs, hd, hR⟩ := RD.but rd4 hF4 bG
      clear bG hF4 dt4 rd4
      clear H4
      obtain ⟨_, _, _, _, _, _, f0, f1, f2, f3, f4, f5, eu, ef, ⟨p0, rfl, h0⟩, ⟨p1, rfl, h1⟩, ⟨p2, rfl, h2⟩, ⟨p3, rfl, h3⟩, ⟨p4, rfl, h4⟩, ⟨p5, rfl, h5⟩⟩ := six hps hl6
      have iv : Iv K a c d L kvs us G G := ⟨hF, hd, hL, Tr.refl K G⟩
      have dtG : ∀ {G'}, Iv K a c d L kvs us G G' → Dt a G' pv (.tuple (pgL p)) := fun iv => Dt.tups (z' := a) iv.t.2 _ _ (noLs_pg p) dt
      have rdG : ∀ {G'}, Iv K a c d L kvs us G G' → RD K G' d ws v := fun iv => ⟨kvs, iv.d, hR.mono iv.t⟩
      have psG : ∀ {G'}, Iv K a c d L kvs us G G' → ∀ m, Paired (fun u f => ∃ p, u = V.ref p ∧ G' p = some (trF f)) (us.take m) (fs.take m) := fun iv m => pair_imp (fun _ _ ⟨p, e, k⟩ => ⟨p, e, iv.t.2 _ _ k⟩) (paired_take hps m)
      have hcm : ∀ m, ∀ f ∈ fs.take m, f ∈ CH := fun m f hf => pc_ch f (hfs f (List.mem_of_mem_take hf))
      have okv := rd_okv hR
      -- the copy, and three choices
      refine ⟨fun σ G1 => Iv K a c d L kvs us G G1 ∧ ∃ kd, kd ≠ d ∧ G1 kd = some (.dK kvs) ∧ σ = [some (.ref s0), some (.ref a), y2, some (.ref W), some pv, some (.ref d), some (.ref L), some (.ref kd), some (.ref p0), some (.ref p1), some (.ref p2), y11, y12, y13, y14, y15, y16, y17, y18, y19], ?_, fun σ G1 hM => ?_⟩
      · refine ⟨_, rfl, d, kvs, rfl, .inl hd, fun kd nkd => ?_⟩
        have t1 := same_upd (o := HO.dK kvs) nkd
        rw [eu] at hL
        refine ⟨_, rfl, L, _, _, _, rfl, rfl, SqL.of (t1 _ _ hL), rfl, _, rfl, L, _, _, _, rfl, rfl, SqL.of (t1 _ _ hL), rfl, _, rfl, L, _, _, _, rfl, rfl, SqL.of (t1 _ _ hL), rfl, small_line (by show 4 ≤ 1000; decide), fun o no => ?_⟩
        have t2 := same_upd (o := HO.tup [V.ref kd, .ref p0, .ref p1, .ref p2]) no
        exact ⟨o, _, rfl, SqT.of upd_same, rfl, _, _, rfl, _, _, rfl, _, _, rfl, _, _, rfl, rfl, iv.same (t1.trans t2), kd, ne_of_none hd nkd |>.symm, t2 _ _ upd_same, rfl⟩
      obtain ⟨iv1, kd, nkd, hkd, rfl⟩ := hM
      -- three more
      refine ⟨fun σ G2 => Iv K a c d L kvs us G G2 ∧ G2 kd = some (.dK kvs) ∧ σ = [some (.ref s0), some (.ref a), y2, some (.ref W), some pv, some (.ref d), some (.ref L), some (.ref kd), some (.ref p0), some (.ref p1), some (.ref p2), some (.ref p3), some (.ref p4), some (.ref p5), y14, y15, y16, y17, y18, y19], ?_, fun σ G2 hM => ?_⟩
      · refine ⟨_, rfl, 3, rfl, L, us, rfl, SqL.of iv1.l, fun o no => ?_⟩
        rw [eu, show cutV [V.ref p0, .ref p1, .ref p2, .ref p3, .ref p4, .ref p5] (some 3) none = [.ref p3, .ref p4, .ref p5] from rfl]
        have t2 := same_upd (o := HO.lst [V.ref p3, .ref p4, .ref p5]) no
        rw [← eu]
        exact ⟨o, _, rfl, SqL.of upd_same, rfl, _, _, rfl, _, _, rfl, _, _, rfl, rfl, iv1.same t2, t2 _ _ hkd, rfl⟩
      obtain ⟨iv2, hkd, rfl⟩ := hM
      -- three runs
      have RUN := fun {G' : Hp} {us' : List V} {Q : VK} (m : Nat) (e : us' = us.take m) (iv : Iv K a c d L kvs us G G') (h : ∀ r G'', Same G' G'' → Res K G'' ws (go p (v, fs.take m)) r → Fresh G' r → Q r G'') =>
        run_call (K := K) (E := E) (us := us') (cs := fs.take m) (dtG iv) ok (by omega) ct (rdG iv) vl (by rw [e]; exact psG iv m) (hcm m) (by rw [e, eu]; exact Nat.le_trans (List.length_take_le' ..) (by show 6 ≤ 100; decide)) (by omega) h
      refine ⟨fun σ G3 => Iv K a c d L kvs us G G3 ∧ G3 kd = some (.dK kvs) ∧ ∃ T rs, T ≠ a ∧ T ≠ c ∧ T ≠ L ∧ G3 T = some (.lst rs) ∧ Paired (fun r m => Res K G3 ws (go p (v, fs.take m)) r) rs [0, 1, 3] ∧ σ = [some (.ref s0), some (.ref a), y2, some (.ref W), some pv, some (.ref d), some (.ref L), some (.ref kd), some (.ref p0), some (.ref p1), some (.ref p2), some (.ref p3), some (.ref p4), some (.ref p5), some (.ref T), y15, y16, y17, y18, y19], ?_, fun σ G3 hM => ?_⟩
      · refine ⟨_, rfl, _, rfl, RUN (us' := []) 0 (by rw [eu]; rfl) iv2 fun r1 H1 s1 R1 _ => ?_⟩
        have iv3 := iv2.same s1
        refine ⟨_, rfl, _, rfl, _, rfl, RUN (us' := [.ref p0]) 1 (by rw [eu]; rfl) iv3 fun r2 H2 s2 R2 _ => ?_⟩
        have iv4 := iv3.same s2
        refine ⟨_, rfl, _, rfl, _, rfl, _, rfl, _, rfl, RUN (us' := [.ref p0, .ref p1, .ref p2]) 3 (by rw [eu]; rfl) iv4 fun r3 H3 s3 R3 _ => ?_⟩
        have iv5 := iv4.same s3
        refine ⟨small_line (by show 3 ≤ 1000; decide), fun T nT => ?_⟩
        have sT := same_upd (o := HO.lst [r1, r2, r3]) nT
        exact ⟨iv5.same sT, sT _ _ (s3 _ _ (s2 _ _ (s1 _ _ hkd))), T, _, new_ne iv5.f nT, new_nc iv5.f nT, (ne_of_none iv5.l nT).symm, upd_same, .cons (R1.same (s2.trans (s3.trans sT))) (.cons (R2.same (s3.trans sT)) (.cons (R3.same sT) .nil)), rfl⟩
      obtain ⟨iv3, hkd, T, rs, nTa, nTc, nTL, hT, hrs, rfl⟩ := hM
      -- one more
      refine ⟨fun σ G4 => Iv K a c d L kvs us G G4 ∧ G4 kd = some (.dK kvs) ∧ ∃ rs, G4 T = some (.lst rs) ∧ Paired (fun r m => Res K G4 ws (go p (v, fs.take m)) r) rs [0, 1, 3, 6] ∧ σ = [some (.ref s0), some (.ref a), y2, some (.ref W), some pv, some (.ref d), some (.ref L), some (.ref kd), some (.ref p0), some (.ref p1), some (.ref p2), some (.ref p3), some (.ref p4), some (.ref p5), some (.ref T), y15, y16, y17, y18, y19], ?_, fun σ G4 hM => ?_⟩
      · refine ⟨_, rfl, .inl ⟨rfl, _, SqL.of hT⟩, _, rfl, _, rfl, _, rfl, _, rfl, _, rfl, _, rfl, _, rfl, _, rfl, RUN (us' := [.ref p0, .ref p1, .ref p2, .ref p3, .ref p4, .ref p5]) 6 (by rw [eu]; rfl) iv3 fun r4 H4 s4 R4 _ => ?_⟩
        have hT4 := s4 _ _ hT
        have rl : rs.length = 3 := Paired.length hrs
        refine ⟨T, rs, r4, rfl, rfl, hT4, small1000 (by omega), (iv3.same s4).updL hT4 nTa nTc nTL, ?_, rs ++ [r4], upd_same, ?_, rfl⟩
        · rw [upd_ne (fun e => by rw [e, hT] at hkd; cases hkd)]
          exact s4 _ _ hkd
        · exact paired_snoc (xs := rs) (ys := [0, 1, 3]) (pair_imp (fun _ _ h => (h.same s4).updL hT4) hrs) (R4.updL hT4)
      obtain ⟨iv4, hkd, rs, hT, hrs, rfl⟩ := hM
      -- the law's own runs
      refine ⟨fun σ G5 => Iv K a c d L kvs us G G5 ∧ Same G4 G5 ∧ ∃ U qs, G5 U = some (.lst qs) ∧ Paired (fun r m => Res K G5 ws (go p (v, fs.take m)) r ∧ Fresh G4 r) qs [0, 1, 3, 6] ∧ σ = [some (.ref s0), some (.ref a), y2, some (.ref W), some pv, some (.ref d), some (.ref L), some (.ref kd), some (.ref p0), some (.ref p1), some (.ref p2), some (.ref p3), some (.ref p4), some (.ref p5), some (.ref T), some (.ref U), y16, y17, y18, y19], ?_, fun σ G5 hM => ?_⟩
      · refine ⟨small_line (by show 4 ≤ 1000; decide), fun X nX => ⟨X, rfl, ⟨_, SqT.of upd_same⟩, fun D nD => ?_⟩⟩
        have sX := same_upd (o := HO.tup [V.int 0, .int 1, .int 3, .int 6]) nX
        have nD4 := sX.free nD
        have nXD : X ≠ D := ne_of_none upd_same nD
        have sD := sX.trans (same_upd (o := HO.lst []) nD)
        have xX : upd (upd G4 X (.tup [V.int 0, .int 1, .int 3, .int 6])) D (.lst []) X = some (.tup (([0, 1, 3, 6] : List Nat).map fun m : Nat => V.int (m : Int))) := by
          rw [upd_ne nXD]
          exact upd_same
        refine lc_tup (K := K) (a := X) (xs := ([0, 1, 3, 6] : List Nat).map fun m : Nat => V.int (m : Int)) (fun i G5 => Same G4 G5 ∧ G5 X = some (.tup (([0, 1, 3, 6] : List Nat).map fun m : Nat => V.int (m : Int))) ∧ ∃ qs, G5 D = some (.lst qs) ∧ Paired (fun r m => Res K G5 ws (go p (v, fs.take m)) r ∧ Fresh G4 r) qs (([0, 1, 3, 6] : List Nat).take i)) ⟨sD, xX, [], upd_same, .nil⟩ (fun i G5 _ hq => SqT.of hq.2.1) (fun i x G5 hx hq => ?_) (fun G5 hq => ?_)
        · obtain ⟨s5, hX5, qs, hD5, hqs⟩ := hq
          rw [List.getElem?_map] at hx
          obtain ⟨m, hm, rfl⟩ := Option.map_eq_some_iff.mp hx
          have iv5 := iv4.same s5
          refine ⟨rfl, _, rfl, _, rfl, _, rfl, _, rfl, (m : Int), rfl, L, us, rfl, SqL.of iv5.l, fun M nM => ?_⟩
          rw [cut_take]
          have sM := same_upd (o := HO.lst (us.take m)) nM
          have iv6 := iv5.same sM
          refine lrun_call (E := E) (dtG iv6) ok dp ct (rdG iv6) vl upd_same (psG iv6 m) (hcm m) (by rw [eu]; exact Nat.le_trans (List.length_take_le' ..) (by show 6 ≤ 100; decide)) (by omega) fun r G7 s7 R7 F7 => ?_
          have hD7 := s7 _ _ (sM _ _ hD5)
          have ql : qs.length ≤ 4 := by
            have := Paired.length hqs
            rw [List.length_take] at this
            have l4 : ([0, 1, 3, 6] : List Nat).length = 4 := rfl
            omega
          have s57 := s5.trans (sM.trans s7)
          refine ⟨qs, hD7, small1000 (by omega), fun b o e => ?_, ?_, qs ++ [r], upd_same, ?_⟩
          · rw [upd_ne (ne_of_none e nD4)]
            exact s57 _ _ e
          · rw [upd_ne nXD]
            exact s7 _ _ (sM _ _ hX5)
          · rw [List.take_add_one, hm]
            refine paired_snoc (pair_imp (fun _ _ ⟨h, f⟩ => ⟨(h.same (sM.trans s7)).updL hD7, f⟩) hqs) ⟨R7.updL hD7, fun e he => ?_⟩
            cases e9 : G4 e with
            | none => rfl
            | some o =>
              have := F7 e he
              rw [(s5.trans sM) _ _ e9] at this
              cases this
        · obtain ⟨s5, hX5, qs, hD5, hqs⟩ := hq
          exact ⟨iv4.same s5, s5, D, qs, hD5, hqs, rfl⟩
      obtain ⟨iv5, s45, U, qs, hU, hqs, rfl⟩ := hM
      have hkd := s45 _ _ hkd
      have hT := s45 _ _ hT
      -- they are the same
      refine ⟨fun σ G6 => Iv K a c d L kvs us G G6 ∧ G6 kd = some (.dK kvs) ∧ σ = [some (.ref s0), some (.ref a), y2, some (.ref W), some pv, some (.ref d), some (.ref L), some (.ref kd), some (.ref p0), some (.ref p1), some (.ref p2), some (.ref p3), some (.ref p4), some (.ref p5), some (.ref T), some (.ref U), y16, y17, y18, y19], ?_, fun σ G6 hM => ?_⟩
      · have r4 : rs.length = 4 := Paired.length hrs
        have q4 : qs.length = 4 := Paired.length hqs
        have EQ : EqX K G5 3 (.ref T) (.ref U) := .inr (.inl ⟨T, U, rs, qs, rfl, rfl, .inl ⟨hT, hU⟩, by omega, by omega, fun i x y hx hy => by
          obtain ⟨m, hm, Rx⟩ := paired_get hrs hx
          obtain ⟨m', hm', Ry, Fy⟩ := paired_get hqs hy
          have e := hm.symm.trans hm'
          cases e
          refine res_eqx (n := 0) (Rx.same s45) Ry (fun e he he' => ?_) wl hw
          have f := Fy e he'
          rcases Rx with ⟨_, h⟩ | ⟨_, e', _, h, _, h', _⟩
          · rw [he] at h
            cases h
          · rw [he] at h
            cases h
            rw [f] at h'
            cases h'⟩)
        refine ⟨_, rfl, _, rfl, .ref T, .ref U, rfl, EQ, fun G6 s6 => ⟨_, rfl, iteF ?_⟩⟩
        refine ⟨_, rfl, _, rfl, d, kd, kvs, rfl, rfl, s6 _ _ iv5.d, s6 _ _ hkd, okv, _, rfl, iteF ?_⟩
        exact ⟨iv5.same s6, s6 _ _ hkd, rfl⟩
      obtain ⟨iv6, hkd, rfl⟩ := hM
      -- three programs, what they give emptied
      refine ⟨Nat.zero_le _, fun e0 m0 => ?_⟩
      have t0 := same_upd (o := HO.tup []) m0
      refine ⟨_, rfl, small_line (by show 3 ≤ 1000; decide), fun e1 m1 => ?_⟩
      have iv7 := iv6.same t0
      have t1 := same_upd (o := HO.tup [V.str (Str.ofString "repeat"), .int 0, pv]) m1
      have D1 : Dt a _ (.ref e1) (.tuple [.str (Str.ofString "repeat"), .int 0, .tuple (pgL p)]) := (dnewT (z := a) m1 (.cons (.str (Str.ofString "repeat") (by decide +kernel)) (.cons (.int 0 (by decide +kernel)) (.cons (dtG iv7) .nil)))).2
      refine ⟨small_line (by show 1 ≤ 1000; decide), fun e2 m2 => ?_⟩
      have t2 := same_upd (o := HO.tup [V.ref e1]) m2
      have D2 := (dnewT (z := a) m2 (.cons D1 .nil)).2
      refine ⟨_, rfl, small_line (by show 3 ≤ 1000; decide), fun X nX => ?_⟩
      have t3 := same_upd (o := HO.tup [V.ref e0, .ref e2, pv]) nX
      have iv8 := iv7.same (t1.trans (t2.trans t3))
      have D2 := D2.same t3
      have D0 : Dt a _ (.ref e0) (.tuple []) := .tup ((t1.trans (t2.trans t3)) _ _ upd_same) .nil
      have hX := upd_same (H := upd (upd (upd G6 e0 (HO.tup [])) e1 (HO.tup [V.str (Str.ofString "repeat"), .int 0, pv])) e2 (HO.tup [V.ref e1])) (a := X) (o := HO.tup [V.ref e0, .ref e2, pv])
      have hkd := (t0.trans (t1.trans (t2.trans t3))) _ _ hkd
      generalize upd (upd (upd (upd G6 e0 (HO.tup [])) e1 (HO.tup [V.str (Str.ofString "repeat"), .int 0, pv])) e2 (HO.tup [V.ref e1])) X (HO.tup [V.ref e0, .ref e2, pv]) = G8 at *
      refine ⟨X, rfl, ⟨_, SqT.of hX⟩, ?_⟩
      refine for_tup (K := K) (a := X) (xs := [V.ref e0, .ref e2, pv]) (fun j σ G9 => Iv K a c d L kvs us G G9 ∧ Tr K G8 G9 ∧ G9 kd = some (.dK kvs) ∧ ∃ y16 y17, σ = [some (.ref s0), some (.ref a), y2, some (.ref W), some pv, some (.ref d), some (.ref L), some (.ref kd), some (.ref p0), some (.ref p1), some (.ref p2), some (.ref p3), some (.ref p4), some (.ref p5), some (.ref T), some (.ref U), y16, y17, y18, y19]) ⟨iv8, Tr.refl K G8, hkd, _, _, rfl⟩ (fun j σ G9 _ hq => SqT.of (hq.2.1.2 _ _ hX)) (fun j x σ G9 hx hq => ?_) (fun σ G9 hq => ?_)
      · obtain ⟨iv9, tr9, hkd9, y16, y17, rfl⟩ := hq
        obtain ⟨pg, dx, okx, dpx, ctx⟩ : ∃ pg, Dt a G9 x (.tuple (pgL pg)) ∧ PgOk ws pg ∧ dep pg ≤ 3 ∧ cnt pg ≤ 40 := by
          match j, hx with
          | 0, hx =>
            cases hx
            exact ⟨.nil, Dt.tups (z' := a) tr9.2 _ _ rfl D0, trivial, Nat.zero_le _, Nat.zero_le _⟩
          | 1, hx =>
            cases hx
            refine ⟨.rep 0 p .nil, Dt.tups (z' := a) tr9.2 _ _ (noLs_pg (.rep 0 p .nil)) D2, rep0_ok ok lnp, by show max (dep p + 1) 0 ≤ 3; omega, by show 0 * cnt p + 0 ≤ 40; omega⟩
          | 2, hx =>
            cases hx
            exact ⟨p, dtG iv9, ok, by omega, ct⟩
        refine ⟨fun σ GA => Same G9 GA ∧ ∃ o r, Res K GA ws o r ∧ Fresh G9 r ∧ σ = [some (.ref s0), some (.ref a), y2, some (.ref W), some pv, some (.ref d), some (.ref L), some (.ref kd), some (.ref p0), some (.ref p1), some (.ref p2), some (.ref p3), some (.ref p4), some (.ref p5), some (.ref T), some (.ref U), some x, some r, y18, y19], ?_, fun σ GA hM => ?_⟩
        · refine ⟨_, rfl, _, rfl, _, rfl, _, rfl, _, rfl, ?_⟩
          exact run_call (K := K) (E := E) (us := [.ref p0, .ref p1, .ref p2]) (cs := fs.take 3) dx okx dpx ctx (rdG iv9) vl (by have := psG iv9 3; rw [eu] at this; exact this) (hcm 3) (by show 3 ≤ 100; decide) (by omega) (fun r GA sA RA FA => ⟨sA, _, r, RA, FA, rfl⟩)
        obtain ⟨sA, o, r, RA, FA, rfl⟩ := hM
        refine ⟨fun σ GB => Iv K a c d L kvs us G GB ∧ Tr K G8 GB ∧ GB kd = some (.dK kvs) ∧ ∃ y17, σ = [some (.ref s0), some (.ref a), y2, some (.ref W), some pv, some (.ref d), some (.ref L), some (.ref kd), some (.ref p0), some (.ref p1), some (.ref p2), some (.ref p3), some (.ref p4), some (.ref p5), some (.ref T), some (.ref U), some x, y17, y18, y19], ?_, fun σ GB hM => ?_⟩
        · have ivA := iv9.same sA
          have trA := tr9.trans (Tr.sm sA)
          have hkA := sA _ _ hkd9
          refine ⟨_, rfl, rfl, _, rfl, ?_⟩
          rcases RA with ⟨_, rfl⟩ | ⟨t, e, _, rfl, ks, he, _⟩
          · exact iteF' rfl ⟨ivA, trA, hkA, _, rfl⟩
          · have f := FA e rfl
            have ned : e ≠ d := fun z => by rw [z, iv9.d] at f; cases f
            have nek : e ≠ kd := fun z => by rw [z, hkd9] at f; cases f
            refine iteT' rfl ⟨_, rfl, .inr (.inr (.inl ⟨rfl, .inl ⟨ks, he⟩⟩)), e, ks, rfl, rfl, he, ivA.updD he ned, trA.trans (Tr.updD he), ?_, _, rfl⟩
            rw [upd_ne nek.symm]
            exact hkA
        obtain ⟨ivB, trB, hkB, y17, rfl⟩ := hM
        refine ⟨_, rfl, _, rfl, d, kd, kvs, rfl, rfl, ivB.d, hkB, okv, _, rfl, iteF ?_⟩
        exact ⟨ivB, trB, hkB, _, _, rfl⟩
      · obtain ⟨iv9, tr9, hkd9, y16, y17, rfl⟩ := hq
        exact ⟨iv9.f, _, _, _, _, _, _, _, _, _, _, _, _, _, _, _, _, _, _, rfl⟩
    · -- the written program
      obtain ⟨y2, y3, y4, y5, y6, y7, y8, y9, y10, y11, y12, y13, y14, y15, y16, y17, y18, y19, rfl⟩ := hM
      refine ⟨(small_line (by decide : 2 ≤ 1000)), fun p1 n1 => ?_⟩
      obtain ⟨s1, d1⟩ := dnewT (z := a) n1 (.cons (.str (Str.ofString "any") (by decide +kernel)) (.cons (.str (Str.ofString "x") (by decide +kernel)) .nil))
      refine ⟨(small_line (by decide : 2 ≤ 1000)), fun p2 n2 => ?_⟩
      obtain ⟨s2, d2⟩ := dnewT (z := a) n2 (.cons (.int 1 (by decide +kernel)) (.cons (.int 1 (by decide +kernel)) .nil))
      refine ⟨(small_line (by decide : 2 ≤ 1000)), fun p3 n3 => ?_⟩
      obtain ⟨s3, d3⟩ := dnewT (z := a) n3 (.cons (.int 0 (by decide +kernel)) (.cons (.int 1 (by decide +kernel)) .nil))
      refine ⟨(small_line (by decide : 3 ≤ 1000)), fun p4 n4 => ?_⟩
      obtain ⟨s4, d4⟩ := dnewT (z := a) n4 (.cons (d2.same s3) (.cons (.str (Str.ofString "x") (by decide +kernel)) (.cons d3 .nil)))
      refine ⟨(small_line (by decide : 2 ≤ 1000)), fun p5 n5 => ?_⟩
      obtain ⟨s5, d5⟩ := dnewT (z := a) n5 (.cons (.int 1 (by decide +kernel)) (.cons (.int 1 (by decide +kernel)) .nil))
      refine ⟨(small_line (by decide : 2 ≤ 1000)), fun p6 n6 => ?_⟩
      obtain ⟨s6, d6⟩ := dnewT (z := a) n6 (.cons (.int 3 (by decide +kernel)) (.cons (.int 1 (by decide +kernel)) .nil))
      refine ⟨(small_line (by decide : 3 ≤ 1000)), fun p7 n7 => ?_⟩
      obtain ⟨s7, d7⟩ := dnewT (z := a) n7 (.cons (d5.same s6) (.cons (.str (Str.ofString "x") (by decide +kernel)) (.cons d6 .nil)))
      refine ⟨(small_line (by decide : 4 ≤ 1000)), fun p8 n8 => ?_⟩
      obtain ⟨s8, d8⟩ := dnewT (z := a) n8 (.cons (.str (Str.ofString "set") (by decide +kernel)) (.cons (.str (Str.ofString "y") (by decide +kernel)) (.cons (d4.same (s5.trans (s6.trans s7))) (.cons d7 .nil))))
      refine ⟨(small_line (by decide : 2 ≤ 1000)), fun p9 n9 => ?_⟩
      obtain ⟨s9, d9⟩ := dnewT (z := a) n9 (.cons (d1.same (s2.trans (s3.trans (s4.trans (s5.trans (s6.trans (s7.trans s8))))))) (.cons d8 .nil))
      rw [lit_pg0] at d9
      generalize upd _ p9 _ = K1 at d9
      intro D1 nD1
      refine ⟨two_line, fun q1 m1 => ⟨two_line, fun q2 m2 => ?_⟩⟩
      have X1 := fun ks => disp_two (o2 := HO.tup [V.int 0, .int 1]) (ks := ks) nD1 m1 m2
      refine ⟨(X1 []).1, [(.inr (Str.ofString "x"), .ref q1), (.inr (Str.ofString "y"), .ref q2)], rfl, by show 2 ≤ 15; decide, ?_⟩
      obtain ⟨_, S1, x1, x2, x3⟩ := X1 (mergeK [] [(.inr (Str.ofString "x"), .ref q1), (.inr (Str.ofString "y"), .ref q2)])
      have RD1 := rd_two (K := K) (v := fun _ => (0, 1)) x1 x2 x3
      have d9 := d9.same S1
      generalize upd _ D1 (HO.dK (mergeK [] [(.inr (Str.ofString "x"), .ref q1), (.inr (Str.ofString "y"), .ref q2)])) = K2 at *
      refine ⟨two_line, fun c1 k1 => ?_⟩
      have u1 := same_upd (o := HO.tup [V.int 5, .int 1]) k1
      refine ⟨two_line, fun c2 k2 => ?_⟩
      have u2 := same_upd (o := HO.tup [V.int 1, .int 2]) k2
      have u12 := u1.trans u2
      refine run_call (K := K) (E := E) (us := [.ref c1, .ref c2]) (cs := [(5, 1), (1, 2)]) (d9.same u12) ok_pg0 (by decide) (by decide) (RD1.same u12) vl0 (.cons ⟨c1, rfl, u2 _ _ upd_same⟩ (.cons ⟨c2, rfl, upd_same⟩ .nil)) (fun f hf => by
        unfold CH
        simp only [List.mem_cons, List.not_mem_nil, or_false] at hf
        rcases hf with rfl | rfl <;> simp) (by show 2 ≤ 100; decide) (by decide) (fun r K3 s3 R3 _ => ?_)
      rw [go_pg0] at R3
      intro D2 nD2
      refine ⟨two_line, fun q3 m3 => ⟨two_line, fun q4 m4 => ?_⟩⟩
      have X2 := fun ks => disp_two (o2 := HO.tup [V.int 7, .int 1]) (ks := ks) nD2 m3 m4
      refine ⟨(X2 []).1, [(.inr (Str.ofString "x"), .ref q3), (.inr (Str.ofString "y"), .ref q4)], rfl, by show 2 ≤ 15; decide, ?_⟩
      obtain ⟨_, S2, z1, z2, z3⟩ := X2 (mergeK [] [(.inr (Str.ofString "x"), .ref q3), (.inr (Str.ofString "y"), .ref q4)])
      have RD2 := rd_two (K := K) (v := st0.1) z1 z2 z3
      refine ⟨r, .ref D2, rfl, res_eqx (n := 1) (R3.same S2) (.inr ⟨st0, D2, rfl, rfl, RD2⟩) (fun e he he' => ?_) (by decide) (fun x hx => ?_), fun H' _ => q H'⟩
      · cases he'
        rcases R3 with ⟨h, _⟩ | ⟨_, _, _, h, _, h', _⟩
        · cases h
        · rw [he] at h
          cases h
          rw [nD2] at h'
          cases h'
      · unfold ws0 at hx
        simp only [List.mem_cons, List.not_mem_nil, or_false] at hx
        rcases hx with rfl | rfl <;> decide +kernel
end
theorem all_mk {l : PySem.W.OpenLaw} {w : World} {K : PySem.W.Frag} {h : Heap} {mg : Str → Option Value} {fl f8 f9 f10 f11 f12 f13 f14 f16 f18 f20 f21 f22 f23 f24 f25 f27 f28 f29 f30 f31 f32 f33 f34 f35 f36 f37 f38 f39 f40 f41 f42 f43 f44 f45 f46 f47 f48 f49 f50 fZ_ZERO fT10 : Addr} (X : K.In h) (G : h.Ns mainGlobals mg) (hfa : mg "law" = some (.ref fl))
    {od8 an8 od9 an9 od10 an10 od11 an11 od12 an12 od13 an13 od14 an14 od16 an16 od18 an18 od20 an20 od21 an21 od22 an22 od23 an23 od24 an24 od25 an25 od27 an27 od28 an28 od29 an29 od30 an30 od31 an31 od32 an32 od33 an33 od34 an34 od35 an35 od36 an36 od37 an37 od38 an38 od39 an39 od40 an40 od41 an41 od42 an42 od43 an43 od44 an44 od45 an45 od46 an46 od47 an47 od48 an48 od49 an49 od50 an50 : Option Addr}
    {sl8 sl9 sl10 sl11 sl12 sl13 sl14 sl16 sl18 sl20 sl21 sl22 sl23 sl24 sl25 sl27 sl28 sl29 sl30 sl31 sl32 sl33 sl34 sl35 sl36 sl37 sl38 sl39 sl40 sl41 sl42 sl43 sl44 sl45 sl46 sl47 sl48 sl49 sl50 : Array (Option Value)}
    {oc8 kV8 dc8 pm8 cd8 ct8 oc9 kV9 dc9 pm9 cd9 ct9 oc10 kV10 dc10 pm10 cd10 ct10 oc11 kV11 dc11 pm11 cd11 ct11 oc12 kV12 dc12 pm12 cd12 ct12 oc13 kV13 dc13 pm13 cd13 ct13 oc14 kV14 dc14 pm14 cd14 ct14 oc16 kV16 dc16 pm16 cd16 ct16 oc18 kV18 dc18 pm18 cd18 ct18 oc20 kV20 dc20 pm20 cd20 ct20 oc21 kV21 dc21 pm21 cd21 ct21 oc22 kV22 dc22 pm22 cd22 ct22 oc23 kV23 dc23 pm23 cd23 ct23 oc24 kV24 dc24 pm24 cd24 ct24 oc25 kV25 dc25 pm25 cd25 ct25 oc27 kV27 dc27 pm27 cd27 ct27 oc28 kV28 dc28 pm28 cd28 ct28 oc29 kV29 dc29 pm29 cd29 ct29 oc30 kV30 dc30 pm30 cd30 ct30 oc31 kV31 dc31 pm31 cd31 ct31 oc32 kV32 dc32 pm32 cd32 ct32 oc33 kV33 dc33 pm33 cd33 ct33 oc34 kV34 dc34 pm34 cd34 ct34 oc35 kV35 dc35 pm35 cd35 ct35 oc36 kV36 dc36 pm36 cd36 ct36 oc37 kV37 dc37 pm37 cd37 ct37 oc38 kV38 dc38 pm38 cd38 ct38 oc39 kV39 dc39 pm39 cd39 ct39 oc40 kV40 dc40 pm40 cd40 ct40 oc41 kV41 dc41 pm41 cd41 ct41 oc42 kV42 dc42 pm42 cd42 ct42 oc43 kV43 dc43 pm43 cd43 ct43 oc44 kV44 dc44 pm44 cd44 ct44 oc45 kV45 dc45 pm45 cd45 ct45 oc46 kV46 dc46 pm46 cd46 ct46 oc47 kV47 dc47 pm47 cd47 ct47 oc48 kV48 dc48 pm48 cd48 ct48 oc49 kV49 dc49 pm49 cd49 ct49 oc50 kV50 dc50 pm50 cd50 ct50 : Value}
    {ocT10 : Value} {odT10 : Option Addr} {nT10 : Nat} {slT10 : Array (Option Value)} {tk10_0 : Tok}
    (t10 : K.lookup fT10 = some ⟨ocT10, odT10, .seq ([Value.int 1 tk10_0] : List Value).toArray nT10, slT10⟩)
    (a8 : PySem.W.nsIn K mainGlobals "shortened" = some (some (.ref f8))) (l8 : K.lookup f8 = some ⟨oc8, od8, .func (PySem.W.fnOf "shortened" "shortened" (defArgs s_p_shortened) (defBody s_p_shortened) (defScope s_p_shortened) .none kV8 dc8 pm8 an8 cd8 ct8), sl8⟩) (c8 : PySem.W.codeIn K cd8 "shortened" = true) (k8 : PySem.W.keepIn K (.ref f8) = true)
    (a9 : PySem.W.nsIn K mainGlobals "common_divisor" = some (some (.ref f9))) (l9 : K.lookup f9 = some ⟨oc9, od9, .func (PySem.W.fnOf "common_divisor" "common_divisor" (defArgs s_p_common_divisor) (defBody s_p_common_divisor) (defScope s_p_common_divisor) .none kV9 dc9 pm9 an9 cd9 ct9), sl9⟩) (c9 : PySem.W.codeIn K cd9 "common_divisor" = true) (k9 : PySem.W.keepIn K (.ref f9) = true)
    (a10 : PySem.W.nsIn K mainGlobals "ratio" = some (some (.ref f10))) (l10 : K.lookup f10 = some ⟨oc10, od10, .func (PySem.W.fnOf "ratio" "ratio" (defArgs s_p_ratio) (defBody s_p_ratio) (defScope s_p_ratio) (.ref fT10) kV10 dc10 pm10 an10 cd10 ct10), sl10⟩) (c10 : PySem.W.codeIn K cd10 "ratio" = true) (k10 : PySem.W.keepIn K (.ref f10) = true)
    (a11 : PySem.W.nsIn K mainGlobals "add" = some (some (.ref f11))) (l11 : K.lookup f11 = some ⟨oc11, od11, .func (PySem.W.fnOf "add" "add" (defArgs s_p_add) (defBody s_p_add) (defScope s_p_add) .none kV11 dc11 pm11 an11 cd11 ct11), sl11⟩) (c11 : PySem.W.codeIn K cd11 "add" = true) (k11 : PySem.W.keepIn K (.ref f11) = true)
    (a12 : PySem.W.nsIn K mainGlobals "subtract" = some (some (.ref f12))) (l12 : K.lookup f12 = some ⟨oc12, od12, .func (PySem.W.fnOf "subtract" "subtract" (defArgs s_p_subtract) (defBody s_p_subtract) (defScope s_p_subtract) .none kV12 dc12 pm12 an12 cd12 ct12), sl12⟩) (c12 : PySem.W.codeIn K cd12 "subtract" = true) (k12 : PySem.W.keepIn K (.ref f12) = true)
    (a13 : PySem.W.nsIn K mainGlobals "multiply" = some (some (.ref f13))) (l13 : K.lookup f13 = some ⟨oc13, od13, .func (PySem.W.fnOf "multiply" "multiply" (defArgs s_p_multiply) (defBody s_p_multiply) (defScope s_p_multiply) .none kV13 dc13 pm13 an13 cd13 ct13), sl13⟩) (c13 : PySem.W.codeIn K cd13 "multiply" = true) (k13 : PySem.W.keepIn K (.ref f13) = true)
    (a14 : PySem.W.nsIn K mainGlobals "is_less" = some (some (.ref f14))) (l14 : K.lookup f14 = some ⟨oc14, od14, .func (PySem.W.fnOf "is_less" "is_less" (defArgs s_p_is_less) (defBody s_p_is_less) (defScope s_p_is_less) .none kV14 dc14 pm14 an14 cd14 ct14), sl14⟩) (c14 : PySem.W.codeIn K cd14 "is_less" = true) (k14 : PySem.W.keepIn K (.ref f14) = true)
    (a16 : PySem.W.nsIn K mainGlobals "is_kept" = some (some (.ref f16))) (l16 : K.lookup f16 = some ⟨oc16, od16, .func (PySem.W.fnOf "is_kept" "is_kept" (defArgs s_p_is_kept) (defBody s_p_is_kept) (defScope s_p_is_kept) .none kV16 dc16 pm16 an16 cd16 ct16), sl16⟩) (c16 : PySem.W.codeIn K cd16 "is_kept" = true) (k16 : PySem.W.keepIn K (.ref f16) = true)
    (a18 : PySem.W.nsIn K mainGlobals "form_value" = some (some (.ref f18))) (l18 : K.lookup f18 = some ⟨oc18, od18, .func (PySem.W.fnOf "form_value" "form_value" (defArgs s_p_form_value) (defBody s_p_form_value) (defScope s_p_form_value) .none kV18 dc18 pm18 an18 cd18 ct18), sl18⟩) (c18 : PySem.W.codeIn K cd18 "form_value" = true) (k18 : PySem.W.keepIn K (.ref f18) = true)
    (a20 : PySem.W.nsIn K mainGlobals "next_choice" = some (some (.ref f20))) (l20 : K.lookup f20 = some ⟨oc20, od20, .func (PySem.W.fnOf "next_choice" "next_choice" (defArgs s_p_next_choice) (defBody s_p_next_choice) (defScope s_p_next_choice) .none kV20 dc20 pm20 an20 cd20 ct20), sl20⟩) (c20 : PySem.W.codeIn K cd20 "next_choice" = true) (k20 : PySem.W.keepIn K (.ref f20) = true)
    (a21 : PySem.W.nsIn K mainGlobals "share_of" = some (some (.ref f21))) (l21 : K.lookup f21 = some ⟨oc21, od21, .func (PySem.W.fnOf "share_of" "share_of" (defArgs s_p_share_of) (defBody s_p_share_of) (defScope s_p_share_of) .none kV21 dc21 pm21 an21 cd21 ct21), sl21⟩) (c21 : PySem.W.codeIn K cd21 "share_of" = true) (k21 : PySem.W.keepIn K (.ref f21) = true)
    (a22 : PySem.W.nsIn K mainGlobals "sets_value" = some (some (.ref f22))) (l22 : K.lookup f22 = some ⟨oc22, od22, .func (PySem.W.fnOf "sets_value" "sets_value" (defArgs s_p_sets_value) (defBody s_p_sets_value) (defScope s_p_sets_value) .none kV22 dc22 pm22 an22 cd22 ct22), sl22⟩) (c22 : PySem.W.codeIn K cd22 "sets_value" = true) (k22 : PySem.W.keepIn K (.ref f22) = true)
    (a23 : PySem.W.nsIn K mainGlobals "runs_statement" = some (some (.ref f23))) (l23 : K.lookup f23 = some ⟨oc23, od23, .func (PySem.W.fnOf "runs_statement" "runs_statement" (defArgs s_p_runs_statement) (defBody s_p_runs_statement) (defScope s_p_runs_statement) .none kV23 dc23 pm23 an23 cd23 ct23), sl23⟩) (c23 : PySem.W.codeIn K cd23 "runs_statement" = true) (k23 : PySem.W.keepIn K (.ref f23) = true)
    (a24 : PySem.W.nsIn K mainGlobals "runs" = some (some (.ref f24))) (l24 : K.lookup f24 = some ⟨oc24, od24, .func (PySem.W.fnOf "runs" "runs" (defArgs s_p_runs) (defBody s_p_runs) (defScope s_p_runs) .none kV24 dc24 pm24 an24 cd24 ct24), sl24⟩) (c24 : PySem.W.codeIn K cd24 "runs" = true) (k24 : PySem.W.keepIn K (.ref f24) = true)
    (a25 : PySem.W.nsIn K mainGlobals "run_program" = some (some (.ref f25))) (l25 : K.lookup f25 = some ⟨oc25, od25, .func (PySem.W.fnOf "run_program" "run_program" (defArgs s_p_run_program) (defBody s_p_run_program) (defScope s_p_run_program) .none kV25 dc25 pm25 an25 cd25 ct25), sl25⟩) (c25 : PySem.W.codeIn K cd25 "run_program" = true) (k25 : PySem.W.keepIn K (.ref f25) = true)
    (a27 : PySem.W.nsIn K mainGlobals "_law_feed" = some (some (.ref f27))) (l27 : K.lookup f27 = some ⟨oc27, od27, .func (PySem.W.fnOf "_law_feed" "_law_feed" (defArgs s_feed) (defBody s_feed) (defScope s_feed) .none kV27 dc27 pm27 an27 cd27 ct27), sl27⟩) (c27 : PySem.W.codeIn K cd27 "_law_feed" = true) (k27 : PySem.W.keepIn K (.ref f27) = true)
    (a28 : PySem.W.nsIn K mainGlobals "_law_draw" = some (some (.ref f28))) (l28 : K.lookup f28 = some ⟨oc28, od28, .func (PySem.W.fnOf "_law_draw" "_law_draw" (defArgs s_draw) (defBody s_draw) (defScope s_draw) .none kV28 dc28 pm28 an28 cd28 ct28), sl28⟩) (c28 : PySem.W.codeIn K cd28 "_law_draw" = true) (k28 : PySem.W.keepIn K (.ref f28) = true)
    (a29 : PySem.W.nsIn K mainGlobals "_law_any" = some (some (.ref f29))) (l29 : K.lookup f29 = some ⟨oc29, od29, .func (PySem.W.fnOf "_law_any" "_law_any" (defArgs s_any) (defBody s_any) (defScope s_any) .none kV29 dc29 pm29 an29 cd29 ct29), sl29⟩) (c29 : PySem.W.codeIn K cd29 "_law_any" = true) (k29 : PySem.W.keepIn K (.ref f29) = true)
    (a30 : PySem.W.nsIn K mainGlobals "_law_same" = some (some (.ref f30))) (l30 : K.lookup f30 = some ⟨oc30, od30, .func (PySem.W.fnOf "_law_same" "_law_same" (defArgs s_same) (defBody s_same) (defScope s_same) .none kV30 dc30 pm30 an30 cd30 ct30), sl30⟩) (c30 : PySem.W.codeIn K cd30 "_law_same" = true) (k30 : PySem.W.keepIn K (.ref f30) = true)
    (a31 : PySem.W.nsIn K mainGlobals "_law_gcd" = some (some (.ref f31))) (l31 : K.lookup f31 = some ⟨oc31, od31, .func (PySem.W.fnOf "_law_gcd" "_law_gcd" (defArgs s_gcd) (defBody s_gcd) (defScope s_gcd) .none kV31 dc31 pm31 an31 cd31 ct31), sl31⟩) (c31 : PySem.W.codeIn K cd31 "_law_gcd" = true) (k31 : PySem.W.keepIn K (.ref f31) = true)
    (a32 : PySem.W.nsIn K mainGlobals "_law_low" = some (some (.ref f32))) (l32 : K.lookup f32 = some ⟨oc32, od32, .func (PySem.W.fnOf "_law_low" "_law_low" (defArgs s_low) (defBody s_low) (defScope s_low) .none kV32 dc32 pm32 an32 cd32 ct32), sl32⟩) (c32 : PySem.W.codeIn K cd32 "_law_low" = true) (k32 : PySem.W.keepIn K (.ref f32) = true)
    (a33 : PySem.W.nsIn K mainGlobals "_law_plus" = some (some (.ref f33))) (l33 : K.lookup f33 = some ⟨oc33, od33, .func (PySem.W.fnOf "_law_plus" "_law_plus" (defArgs s_plus) (defBody s_plus) (defScope s_plus) .none kV33 dc33 pm33 an33 cd33 ct33), sl33⟩) (c33 : PySem.W.codeIn K cd33 "_law_plus" = true) (k33 : PySem.W.keepIn K (.ref f33) = true)
    (a34 : PySem.W.nsIn K mainGlobals "_law_minus" = some (some (.ref f34))) (l34 : K.lookup f34 = some ⟨oc34, od34, .func (PySem.W.fnOf "_law_minus" "_law_minus" (defArgs s_minus) (defBody s_minus) (defScope s_minus) .none kV34 dc34 pm34 an34 cd34 ct34), sl34⟩) (c34 : PySem.W.codeIn K cd34 "_law_minus" = true) (k34 : PySem.W.keepIn K (.ref f34) = true)
    (a35 : PySem.W.nsIn K mainGlobals "_law_by" = some (some (.ref f35))) (l35 : K.lookup f35 = some ⟨oc35, od35, .func (PySem.W.fnOf "_law_by" "_law_by" (defArgs s_by) (defBody s_by) (defScope s_by) .none kV35 dc35 pm35 an35 cd35 ct35), sl35⟩) (c35 : PySem.W.codeIn K cd35 "_law_by" = true) (k35 : PySem.W.keepIn K (.ref f35) = true)
    (a36 : PySem.W.nsIn K mainGlobals "_law_under" = some (some (.ref f36))) (l36 : K.lookup f36 = some ⟨oc36, od36, .func (PySem.W.fnOf "_law_under" "_law_under" (defArgs s_under) (defBody s_under) (defScope s_under) .none kV36 dc36 pm36 an36 cd36 ct36), sl36⟩) (c36 : PySem.W.codeIn K cd36 "_law_under" = true) (k36 : PySem.W.keepIn K (.ref f36) = true)
    (a37 : PySem.W.nsIn K mainGlobals "_law_rate" = some (some (.ref f37))) (l37 : K.lookup f37 = some ⟨oc37, od37, .func (PySem.W.fnOf "_law_rate" "_law_rate" (defArgs s_rate) (defBody s_rate) (defScope s_rate) .none kV37 dc37 pm37 an37 cd37 ct37), sl37⟩) (c37 : PySem.W.codeIn K cd37 "_law_rate" = true) (k37 : PySem.W.keepIn K (.ref f37) = true)
    (a38 : PySem.W.nsIn K mainGlobals "_law_words" = some (some (.ref f38))) (l38 : K.lookup f38 = some ⟨oc38, od38, .func (PySem.W.fnOf "_law_words" "_law_words" (defArgs s_words) (defBody s_words) (defScope s_words) .none kV38 dc38 pm38 an38 cd38 ct38), sl38⟩) (c38 : PySem.W.codeIn K cd38 "_law_words" = true) (k38 : PySem.W.keepIn K (.ref f38) = true)
    (a39 : PySem.W.nsIn K mainGlobals "_law_total" = some (some (.ref f39))) (l39 : K.lookup f39 = some ⟨oc39, od39, .func (PySem.W.fnOf "_law_total" "_law_total" (defArgs s_total) (defBody s_total) (defScope s_total) .none kV39 dc39 pm39 an39 cd39 ct39), sl39⟩) (c39 : PySem.W.codeIn K cd39 "_law_total" = true) (k39 : PySem.W.keepIn K (.ref f39) = true)
    (a40 : PySem.W.nsIn K mainGlobals "_law_keeps" = some (some (.ref f40))) (l40 : K.lookup f40 = some ⟨oc40, od40, .func (PySem.W.fnOf "_law_keeps" "_law_keeps" (defArgs s_keeps) (defBody s_keeps) (defScope s_keeps) .none kV40 dc40 pm40 an40 cd40 ct40), sl40⟩) (c40 : PySem.W.codeIn K cd40 "_law_keeps" = true) (k40 : PySem.W.keepIn K (.ref f40) = true)
    (a41 : PySem.W.nsIn K mainGlobals "_law_point" = some (some (.ref f41))) (l41 : K.lookup f41 = some ⟨oc41, od41, .func (PySem.W.fnOf "_law_point" "_law_point" (defArgs s_point) (defBody s_point) (defScope s_point) .none kV41 dc41 pm41 an41 cd41 ct41), sl41⟩) (c41 : PySem.W.codeIn K cd41 "_law_point" = true) (k41 : PySem.W.keepIn K (.ref f41) = true)
    (a42 : PySem.W.nsIn K mainGlobals "_law_terms" = some (some (.ref f42))) (l42 : K.lookup f42 = some ⟨oc42, od42, .func (PySem.W.fnOf "_law_terms" "_law_terms" (defArgs s_terms) (defBody s_terms) (defScope s_terms) .none kV42 dc42 pm42 an42 cd42 ct42), sl42⟩) (c42 : PySem.W.codeIn K cd42 "_law_terms" = true) (k42 : PySem.W.keepIn K (.ref f42) = true)
    (a43 : PySem.W.nsIn K mainGlobals "_law_brief" = some (some (.ref f43))) (l43 : K.lookup f43 = some ⟨oc43, od43, .func (PySem.W.fnOf "_law_brief" "_law_brief" (defArgs s_brief) (defBody s_brief) (defScope s_brief) .none kV43 dc43 pm43 an43 cd43 ct43), sl43⟩) (c43 : PySem.W.codeIn K cd43 "_law_brief" = true) (k43 : PySem.W.keepIn K (.ref f43) = true)
    (a44 : PySem.W.nsIn K mainGlobals "_law_form" = some (some (.ref f44))) (l44 : K.lookup f44 = some ⟨oc44, od44, .func (PySem.W.fnOf "_law_form" "_law_form" (defArgs s_form) (defBody s_form) (defScope s_form) .none kV44 dc44 pm44 an44 cd44 ct44), sl44⟩) (c44 : PySem.W.codeIn K cd44 "_law_form" = true) (k44 : PySem.W.keepIn K (.ref f44) = true)
    (a45 : PySem.W.nsIn K mainGlobals "_law_check" = some (some (.ref f45))) (l45 : K.lookup f45 = some ⟨oc45, od45, .func (PySem.W.fnOf "_law_check" "_law_check" (defArgs s_check) (defBody s_check) (defScope s_check) .none kV45 dc45 pm45 an45 cd45 ct45), sl45⟩) (c45 : PySem.W.codeIn K cd45 "_law_check" = true) (k45 : PySem.W.keepIn K (.ref f45) = true)
    (a46 : PySem.W.nsIn K mainGlobals "_law_program" = some (some (.ref f46))) (l46 : K.lookup f46 = some ⟨oc46, od46, .func (PySem.W.fnOf "_law_program" "_law_program" (defArgs s_program) (defBody s_program) (defScope s_program) .none kV46 dc46 pm46 an46 cd46 ct46), sl46⟩) (c46 : PySem.W.codeIn K cd46 "_law_program" = true) (k46 : PySem.W.keepIn K (.ref f46) = true)
    (a47 : PySem.W.nsIn K mainGlobals "_law_form_value" = some (some (.ref f47))) (l47 : K.lookup f47 = some ⟨oc47, od47, .func (PySem.W.fnOf "_law_form_value" "_law_form_value" (defArgs s_form_value) (defBody s_form_value) (defScope s_form_value) .none kV47 dc47 pm47 an47 cd47 ct47), sl47⟩) (c47 : PySem.W.codeIn K cd47 "_law_form_value" = true) (k47 : PySem.W.keepIn K (.ref f47) = true)
    (a48 : PySem.W.nsIn K mainGlobals "_law_walk" = some (some (.ref f48))) (l48 : K.lookup f48 = some ⟨oc48, od48, .func (PySem.W.fnOf "_law_walk" "_law_walk" (defArgs s_walk) (defBody s_walk) (defScope s_walk) .none kV48 dc48 pm48 an48 cd48 ct48), sl48⟩) (c48 : PySem.W.codeIn K cd48 "_law_walk" = true) (k48 : PySem.W.keepIn K (.ref f48) = true)
    (a49 : PySem.W.nsIn K mainGlobals "_law_run" = some (some (.ref f49))) (l49 : K.lookup f49 = some ⟨oc49, od49, .func (PySem.W.fnOf "_law_run" "_law_run" (defArgs s_run) (defBody s_run) (defScope s_run) .none kV49 dc49 pm49 an49 cd49 ct49), sl49⟩) (c49 : PySem.W.codeIn K cd49 "_law_run" = true) (k49 : PySem.W.keepIn K (.ref f49) = true)
    (a50 : PySem.W.nsIn K mainGlobals "law" = some (some (.ref f50))) (l50 : K.lookup f50 = some ⟨oc50, od50, .func (PySem.W.fnOf "law" "law" (defArgs s_p_law) (defBody s_p_law) (defScope s_p_law) .none kV50 dc50 pm50 an50 cd50 ct50), sl50⟩) (c50 : PySem.W.codeIn K cd50 "law" = true) (k50 : PySem.W.keepIn K (.ref f50) = true)
    (z_int : PySem.W.nsIn K mainGlobals "int" = some none)
    (z_len : PySem.W.nsIn K mainGlobals "len" = some none)
    (z_abs : PySem.W.nsIn K mainGlobals "abs" = some none)
    (z_range : PySem.W.nsIn K mainGlobals "range" = some none)
    (z_zip : PySem.W.nsIn K mainGlobals "zip" = some none)
    (z_all : PySem.W.nsIn K mainGlobals "all" = some none)
    (z_isinstance : PySem.W.nsIn K mainGlobals "isinstance" = some none)
    (z_bool : PySem.W.nsIn K mainGlobals "bool" = some none)
    (z_str : PySem.W.nsIn K mainGlobals "str" = some none)
    (z_tuple : PySem.W.nsIn K mainGlobals "tuple" = some none)
    (z_list : PySem.W.nsIn K mainGlobals "list" = some none)
    (z_dict : PySem.W.nsIn K mainGlobals "dict" = some none)
    (z_sorted : PySem.W.nsIn K mainGlobals "sorted" = some none)
    (z_set : PySem.W.nsIn K mainGlobals "set" = some none)
    {odZ_ZERO : Option Addr} {nZ_ZERO : Nat} {slZ_ZERO : Array (Option Value)} {tz_ZERO0 tz_ZERO1 : Tok} (zc_ZERO : PySem.W.nsIn K mainGlobals "ZERO" = some (some (.ref fZ_ZERO))) (lz_ZERO : K.lookup fZ_ZERO = some ⟨.type "tuple", odZ_ZERO, .seq ([Value.int 0 tz_ZERO0, Value.int 1 tz_ZERO1] : List Value).toArray nZ_ZERO, slZ_ZERO⟩)
    {tk_LONG : Tok} (zc_LONG : PySem.W.nsIn K mainGlobals "LONG" = some (some (Value.int 4096 tk_LONG)))
    : ∃ fd : FuncData, (∀ (s : Shared) (v : Value), BindsTo s fd ⟨[v], []⟩ [("_law_script", v)]) ∧ ∀ base : Heap, K.In base → base.Ns mainGlobals mg → FnOk l.prog w K mg base CX0 17 fl fd ["_law_script"] (spLaw K) := by
  have e := hfa.symm.trans (PySem.W.mg_of X G a50)
  cases e
  have F8 := fun_mk (st := s_p_shortened) l8 c8 k8
  have F9 := fun_mk (st := s_p_common_divisor) l9 c9 k9
  have F10 : FunD K "ratio" "ratio" (defArgs s_p_ratio) (defBody s_p_ratio) (defScope s_p_ratio) [V.int 1] [] f10 (PySem.W.fnOf "ratio" "ratio" (defArgs s_p_ratio) (defBody s_p_ratio) (defScope s_p_ratio) (.ref fT10) kV10 dc10 pm10 an10 cd10 ct10) := ⟨⟨_, _, _, _, _, _, _, _, _, _, rfl, l10, c10, .inr ⟨by simp, _, _, _, _, rfl, t10, rfl, (.cons ⟨_, rfl⟩ .nil)⟩, .inl rfl⟩, k10⟩
  have Bn10 : Binds K (PySem.W.fnOf "ratio" "ratio" (defArgs s_p_ratio) (defBody s_p_ratio) (defScope s_p_ratio) (.ref fT10) kV10 dc10 pm10 an10 cd10 ct10) ["top", "under"] [] := by
    obtain ⟨ds, v, b⟩ := F10.binds1 (ps := ["top", "under"]) 2 1 (by simp) rfl fun T kV doc pm an cdv ct us its h1 h2 => match us, its, h1, h2 with | [_, _], [_], _, _ => ⟨_, rfl, rfl⟩
    cases v
    exact b
  have Bd10 := F10.binds1 (ps := ["top", "under"]) 1 0 (by simp) rfl fun T kV doc pm an cdv ct us its h1 h2 => match us, its, h1, h2 with | [_], [_], _, _ => ⟨_, rfl, rfl⟩
  have F11 := fun_mk (st := s_p_add) l11 c11 k11
  have F12 := fun_mk (st := s_p_subtract) l12 c12 k12
  have F13 := fun_mk (st := s_p_multiply) l13 c13 k13
  have F14 := fun_mk (st := s_p_is_less) l14 c14 k14
  have F16 := fun_mk (st := s_p_is_kept) l16 c16 k16
  have F18 := fun_mk (st := s_p_form_value) l18 c18 k18
  have F20 := fun_mk (st := s_p_next_choice) l20 c20 k20
  have F21 := fun_mk (st := s_p_share_of) l21 c21 k21
  have F22 := fun_mk (st := s_p_sets_value) l22 c22 k22
  have F23 := fun_mk (st := s_p_runs_statement) l23 c23 k23
  have F24 := fun_mk (st := s_p_runs) l24 c24 k24
  have F25 := fun_mk (st := s_p_run_program) l25 c25 k25
  have F27 := fun_mk (st := s_feed) l27 c27 k27
  have F28 := fun_mk (st := s_draw) l28 c28 k28
  have F29 := fun_mk (st := s_any) l29 c29 k29
  have F30 := fun_mk (st := s_same) l30 c30 k30
  have F31 := fun_mk (st := s_gcd) l31 c31 k31
  have F32 := fun_mk (st := s_low) l32 c32 k32
  have F33 := fun_mk (st := s_plus) l33 c33 k33
  have F34 := fun_mk (st := s_minus) l34 c34 k34
  have F35 := fun_mk (st := s_by) l35 c35 k35
  have F36 := fun_mk (st := s_under) l36 c36 k36
  have F37 := fun_mk (st := s_rate) l37 c37 k37
  have F38 := fun_mk (st := s_words) l38 c38 k38
  have F39 := fun_mk (st := s_total) l39 c39 k39
  have F40 := fun_mk (st := s_keeps) l40 c40 k40
  have F41 := fun_mk (st := s_point) l41 c41 k41
  have F42 := fun_mk (st := s_terms) l42 c42 k42
  have F43 := fun_mk (st := s_brief) l43 c43 k43
  have F44 := fun_mk (st := s_form) l44 c44 k44
  have F45 := fun_mk (st := s_check) l45 c45 k45
  have F46 := fun_mk (st := s_program) l46 c46 k46
  have F47 := fun_mk (st := s_form_value) l47 c47 k47
  have F48 := fun_mk (st := s_walk) l48 c48 k48
  have F49 := fun_mk (st := s_run) l49 c49 k49
  have F50 := fun_mk (st := s_p_law) l50 c50 k50
  have T : Txt K mg (fun i => match i with
      | 8 => f8
      | 9 => f9
      | 10 => f10
      | 11 => f11
      | 12 => f12
      | 13 => f13
      | 14 => f14
      | 16 => f16
      | 18 => f18
      | 20 => f20
      | 21 => f21
      | 22 => f22
      | 23 => f23
      | 24 => f24
      | 25 => f25
      | 27 => f27
      | 28 => f28
      | 29 => f29
      | 30 => f30
      | 31 => f31
      | 32 => f32
      | 33 => f33
      | 34 => f34
      | 35 => f35
      | 36 => f36
      | 37 => f37
      | 38 => f38
      | 39 => f39
      | 40 => f40
      | 41 => f41
      | 42 => f42
      | 43 => f43
      | 44 => f44
      | 45 => f45
      | 46 => f46
      | 47 => f47
      | 48 => f48
      | 49 => f49
      | 50 => fl
      | 2000 => fZ_ZERO
      | _ => fl) (fun i => match i with
      | 8 => (PySem.W.fnOf "shortened" "shortened" (defArgs s_p_shortened) (defBody s_p_shortened) (defScope s_p_shortened) .none kV8 dc8 pm8 an8 cd8 ct8)
      | 9 => (PySem.W.fnOf "common_divisor" "common_divisor" (defArgs s_p_common_divisor) (defBody s_p_common_divisor) (defScope s_p_common_divisor) .none kV9 dc9 pm9 an9 cd9 ct9)
      | 10 => (PySem.W.fnOf "ratio" "ratio" (defArgs s_p_ratio) (defBody s_p_ratio) (defScope s_p_ratio) (.ref fT10) kV10 dc10 pm10 an10 cd10 ct10)
      | 11 => (PySem.W.fnOf "add" "add" (defArgs s_p_add) (defBody s_p_add) (defScope s_p_add) .none kV11 dc11 pm11 an11 cd11 ct11)
      | 12 => (PySem.W.fnOf "subtract" "subtract" (defArgs s_p_subtract) (defBody s_p_subtract) (defScope s_p_subtract) .none kV12 dc12 pm12 an12 cd12 ct12)
      | 13 => (PySem.W.fnOf "multiply" "multiply" (defArgs s_p_multiply) (defBody s_p_multiply) (defScope s_p_multiply) .none kV13 dc13 pm13 an13 cd13 ct13)
      | 14 => (PySem.W.fnOf "is_less" "is_less" (defArgs s_p_is_less) (defBody s_p_is_less) (defScope s_p_is_less) .none kV14 dc14 pm14 an14 cd14 ct14)
      | 16 => (PySem.W.fnOf "is_kept" "is_kept" (defArgs s_p_is_kept) (defBody s_p_is_kept) (defScope s_p_is_kept) .none kV16 dc16 pm16 an16 cd16 ct16)
      | 18 => (PySem.W.fnOf "form_value" "form_value" (defArgs s_p_form_value) (defBody s_p_form_value) (defScope s_p_form_value) .none kV18 dc18 pm18 an18 cd18 ct18)
      | 20 => (PySem.W.fnOf "next_choice" "next_choice" (defArgs s_p_next_choice) (defBody s_p_next_choice) (defScope s_p_next_choice) .none kV20 dc20 pm20 an20 cd20 ct20)
      | 21 => (PySem.W.fnOf "share_of" "share_of" (defArgs s_p_share_of) (defBody s_p_share_of) (defScope s_p_share_of) .none kV21 dc21 pm21 an21 cd21 ct21)
      | 22 => (PySem.W.fnOf "sets_value" "sets_value" (defArgs s_p_sets_value) (defBody s_p_sets_value) (defScope s_p_sets_value) .none kV22 dc22 pm22 an22 cd22 ct22)
      | 23 => (PySem.W.fnOf "runs_statement" "runs_statement" (defArgs s_p_runs_statement) (defBody s_p_runs_statement) (defScope s_p_runs_statement) .none kV23 dc23 pm23 an23 cd23 ct23)
      | 24 => (PySem.W.fnOf "runs" "runs" (defArgs s_p_runs) (defBody s_p_runs) (defScope s_p_runs) .none kV24 dc24 pm24 an24 cd24 ct24)
      | 25 => (PySem.W.fnOf "run_program" "run_program" (defArgs s_p_run_program) (defBody s_p_run_program) (defScope s_p_run_program) .none kV25 dc25 pm25 an25 cd25 ct25)
      | 27 => (PySem.W.fnOf "_law_feed" "_law_feed" (defArgs s_feed) (defBody s_feed) (defScope s_feed) .none kV27 dc27 pm27 an27 cd27 ct27)
      | 28 => (PySem.W.fnOf "_law_draw" "_law_draw" (defArgs s_draw) (defBody s_draw) (defScope s_draw) .none kV28 dc28 pm28 an28 cd28 ct28)
      | 29 => (PySem.W.fnOf "_law_any" "_law_any" (defArgs s_any) (defBody s_any) (defScope s_any) .none kV29 dc29 pm29 an29 cd29 ct29)
      | 30 => (PySem.W.fnOf "_law_same" "_law_same" (defArgs s_same) (defBody s_same) (defScope s_same) .none kV30 dc30 pm30 an30 cd30 ct30)
      | 31 => (PySem.W.fnOf "_law_gcd" "_law_gcd" (defArgs s_gcd) (defBody s_gcd) (defScope s_gcd) .none kV31 dc31 pm31 an31 cd31 ct31)
      | 32 => (PySem.W.fnOf "_law_low" "_law_low" (defArgs s_low) (defBody s_low) (defScope s_low) .none kV32 dc32 pm32 an32 cd32 ct32)
      | 33 => (PySem.W.fnOf "_law_plus" "_law_plus" (defArgs s_plus) (defBody s_plus) (defScope s_plus) .none kV33 dc33 pm33 an33 cd33 ct33)
      | 34 => (PySem.W.fnOf "_law_minus" "_law_minus" (defArgs s_minus) (defBody s_minus) (defScope s_minus) .none kV34 dc34 pm34 an34 cd34 ct34)
      | 35 => (PySem.W.fnOf "_law_by" "_law_by" (defArgs s_by) (defBody s_by) (defScope s_by) .none kV35 dc35 pm35 an35 cd35 ct35)
      | 36 => (PySem.W.fnOf "_law_under" "_law_under" (defArgs s_under) (defBody s_under) (defScope s_under) .none kV36 dc36 pm36 an36 cd36 ct36)
      | 37 => (PySem.W.fnOf "_law_rate" "_law_rate" (defArgs s_rate) (defBody s_rate) (defScope s_rate) .none kV37 dc37 pm37 an37 cd37 ct37)
      | 38 => (PySem.W.fnOf "_law_words" "_law_words" (defArgs s_words) (defBody s_words) (defScope s_words) .none kV38 dc38 pm38 an38 cd38 ct38)
      | 39 => (PySem.W.fnOf "_law_total" "_law_total" (defArgs s_total) (defBody s_total) (defScope s_total) .none kV39 dc39 pm39 an39 cd39 ct39)
      | 40 => (PySem.W.fnOf "_law_keeps" "_law_keeps" (defArgs s_keeps) (defBody s_keeps) (defScope s_keeps) .none kV40 dc40 pm40 an40 cd40 ct40)
      | 41 => (PySem.W.fnOf "_law_point" "_law_point" (defArgs s_point) (defBody s_point) (defScope s_point) .none kV41 dc41 pm41 an41 cd41 ct41)
      | 42 => (PySem.W.fnOf "_law_terms" "_law_terms" (defArgs s_terms) (defBody s_terms) (defScope s_terms) .none kV42 dc42 pm42 an42 cd42 ct42)
      | 43 => (PySem.W.fnOf "_law_brief" "_law_brief" (defArgs s_brief) (defBody s_brief) (defScope s_brief) .none kV43 dc43 pm43 an43 cd43 ct43)
      | 44 => (PySem.W.fnOf "_law_form" "_law_form" (defArgs s_form) (defBody s_form) (defScope s_form) .none kV44 dc44 pm44 an44 cd44 ct44)
      | 45 => (PySem.W.fnOf "_law_check" "_law_check" (defArgs s_check) (defBody s_check) (defScope s_check) .none kV45 dc45 pm45 an45 cd45 ct45)
      | 46 => (PySem.W.fnOf "_law_program" "_law_program" (defArgs s_program) (defBody s_program) (defScope s_program) .none kV46 dc46 pm46 an46 cd46 ct46)
      | 47 => (PySem.W.fnOf "_law_form_value" "_law_form_value" (defArgs s_form_value) (defBody s_form_value) (defScope s_form_value) .none kV47 dc47 pm47 an47 cd47 ct47)
      | 48 => (PySem.W.fnOf "_law_walk" "_law_walk" (defArgs s_walk) (defBody s_walk) (defScope s_walk) .none kV48 dc48 pm48 an48 cd48 ct48)
      | 49 => (PySem.W.fnOf "_law_run" "_law_run" (defArgs s_run) (defBody s_run) (defScope s_run) .none kV49 dc49 pm49 an49 cd49 ct49)
      | 50 => (PySem.W.fnOf "law" "law" (defArgs s_p_law) (defBody s_p_law) (defScope s_p_law) .none kV50 dc50 pm50 an50 cd50 ct50)
      | _ => (PySem.W.fnOf "shortened" "shortened" (defArgs s_p_shortened) (defBody s_p_shortened) (defScope s_p_shortened) .none kV8 dc8 pm8 an8 cd8 ct8)) := {
    F_p_shortened := F8, g_p_shortened := PySem.W.mg_of X G a8
    b_p_shortened := F8.binds (ps := ["one", "other"]) fun _ _ _ _ _ _ us hl => match us, hl with | [_, _], _ => rfl
    F_p_common_divisor := F9, g_p_common_divisor := PySem.W.mg_of X G a9
    b_p_common_divisor := F9.binds (ps := ["one", "other"]) fun _ _ _ _ _ _ us hl => match us, hl with | [_, _], _ => rfl
    F_p_ratio := F10, g_p_ratio := PySem.W.mg_of X G a10
    b_p_ratio := Bn10, d_p_ratio := Bd10
    F_p_add := F11, g_p_add := PySem.W.mg_of X G a11
    b_p_add := F11.binds (ps := ["one", "other"]) fun _ _ _ _ _ _ us hl => match us, hl with | [_, _], _ => rfl
    F_p_subtract := F12, g_p_subtract := PySem.W.mg_of X G a12
    b_p_subtract := F12.binds (ps := ["one", "other"]) fun _ _ _ _ _ _ us hl => match us, hl with | [_, _], _ => rfl
    F_p_multiply := F13, g_p_multiply := PySem.W.mg_of X G a13
    b_p_multiply := F13.binds (ps := ["one", "other"]) fun _ _ _ _ _ _ us hl => match us, hl with | [_, _], _ => rfl
    F_p_is_less := F14, g_p_is_less := PySem.W.mg_of X G a14
    b_p_is_less := F14.binds (ps := ["one", "other"]) fun _ _ _ _ _ _ us hl => match us, hl with | [_, _], _ => rfl
    F_p_is_kept := F16, g_p_is_kept := PySem.W.mg_of X G a16
    b_p_is_kept := F16.binds (ps := ["tie", "values"]) fun _ _ _ _ _ _ us hl => match us, hl with | [_, _], _ => rfl
    F_p_form_value := F18, g_p_form_value := PySem.W.mg_of X G a18
    b_p_form_value := F18.binds (ps := ["form", "values"]) fun _ _ _ _ _ _ us hl => match us, hl with | [_, _], _ => rfl
    F_p_next_choice := F20, g_p_next_choice := PySem.W.mg_of X G a20
    b_p_next_choice := F20.binds (ps := ["choices"]) fun _ _ _ _ _ _ us hl => match us, hl with | [_], _ => rfl
    F_p_share_of := F21, g_p_share_of := PySem.W.mg_of X G a21
    b_p_share_of := F21.binds (ps := ["choice"]) fun _ _ _ _ _ _ us hl => match us, hl with | [_], _ => rfl
    F_p_sets_value := F22, g_p_sets_value := PySem.W.mg_of X G a22
    b_p_sets_value := F22.binds (ps := ["statement", "values", "choices"]) fun _ _ _ _ _ _ us hl => match us, hl with | [_, _, _], _ => rfl
    F_p_runs_statement := F23, g_p_runs_statement := PySem.W.mg_of X G a23
    b_p_runs_statement := F23.binds (ps := ["statement", "values", "choices"]) fun _ _ _ _ _ _ us hl => match us, hl with | [_, _, _], _ => rfl
    F_p_runs := F24, g_p_runs := PySem.W.mg_of X G a24
    b_p_runs := F24.binds (ps := ["program", "values", "choices"]) fun _ _ _ _ _ _ us hl => match us, hl with | [_, _, _], _ => rfl
    F_p_run_program := F25, g_p_run_program := PySem.W.mg_of X G a25
    F_feed := F27, g_feed := PySem.W.mg_of X G a27
    b_feed := F27.binds (ps := ["_law_script"]) fun _ _ _ _ _ _ us hl => match us, hl with | [_], _ => rfl
    F_draw := F28, g_draw := PySem.W.mg_of X G a28
    b_draw := F28.binds (ps := ["_law_feed_here", "_law_many"]) fun _ _ _ _ _ _ us hl => match us, hl with | [_, _], _ => rfl
    F_any := F29, g_any := PySem.W.mg_of X G a29
    b_any := F29.binds (ps := ["_law_feed_here", "_law_row"]) fun _ _ _ _ _ _ us hl => match us, hl with | [_, _], _ => rfl
    F_same := F30, g_same := PySem.W.mg_of X G a30
    b_same := F30.binds (ps := ["_law_found", "_law_due"]) fun _ _ _ _ _ _ us hl => match us, hl with | [_, _], _ => rfl
    F_gcd := F31, g_gcd := PySem.W.mg_of X G a31
    b_gcd := F31.binds (ps := ["_law_one", "_law_two"]) fun _ _ _ _ _ _ us hl => match us, hl with | [_, _], _ => rfl
    F_low := F32, g_low := PySem.W.mg_of X G a32
    b_low := F32.binds (ps := ["_law_upper", "_law_lower"]) fun _ _ _ _ _ _ us hl => match us, hl with | [_, _], _ => rfl
    F_plus := F33, g_plus := PySem.W.mg_of X G a33
    b_plus := F33.binds (ps := ["_law_one", "_law_two"]) fun _ _ _ _ _ _ us hl => match us, hl with | [_, _], _ => rfl
    F_minus := F34, g_minus := PySem.W.mg_of X G a34
    b_minus := F34.binds (ps := ["_law_one"]) fun _ _ _ _ _ _ us hl => match us, hl with | [_], _ => rfl
    F_by := F35, g_by := PySem.W.mg_of X G a35
    b_by := F35.binds (ps := ["_law_one", "_law_two"]) fun _ _ _ _ _ _ us hl => match us, hl with | [_, _], _ => rfl
    F_under := F36, g_under := PySem.W.mg_of X G a36
    b_under := F36.binds (ps := ["_law_one", "_law_two"]) fun _ _ _ _ _ _ us hl => match us, hl with | [_, _], _ => rfl
    F_rate := F37, g_rate := PySem.W.mg_of X G a37
    b_rate := F37.binds (ps := ["_law_feed_here"]) fun _ _ _ _ _ _ us hl => match us, hl with | [_], _ => rfl
    F_words := F38, g_words := PySem.W.mg_of X G a38
    b_words := F38.binds (ps := ["_law_feed_here", "_law_many"]) fun _ _ _ _ _ _ us hl => match us, hl with | [_, _], _ => rfl
    F_total := F39, g_total := PySem.W.mg_of X G a39
    b_total := F39.binds (ps := ["_law_terms_here", "_law_values"]) fun _ _ _ _ _ _ us hl => match us, hl with | [_, _], _ => rfl
    F_keeps := F40, g_keeps := PySem.W.mg_of X G a40
    b_keeps := F40.binds (ps := ["_law_tie", "_law_values"]) fun _ _ _ _ _ _ us hl => match us, hl with | [_, _], _ => rfl
    F_point := F41, g_point := PySem.W.mg_of X G a41
    b_point := F41.binds (ps := ["_law_feed_here", "_law_words_here"]) fun _ _ _ _ _ _ us hl => match us, hl with | [_, _], _ => rfl
    F_terms := F42, g_terms := PySem.W.mg_of X G a42
    b_terms := F42.binds (ps := ["_law_feed_here", "_law_words_here", "_law_pairs"]) fun _ _ _ _ _ _ us hl => match us, hl with | [_, _, _], _ => rfl
    F_brief := F43, g_brief := PySem.W.mg_of X G a43
    b_brief := F43.binds (ps := ["_law_tie"]) fun _ _ _ _ _ _ us hl => match us, hl with | [_], _ => rfl
    F_form := F44, g_form := PySem.W.mg_of X G a44
    b_form := F44.binds (ps := ["_law_feed_here", "_law_words_here"]) fun _ _ _ _ _ _ us hl => match us, hl with | [_, _], _ => rfl
    F_check := F45, g_check := PySem.W.mg_of X G a45
    b_check := F45.binds (ps := ["_law_feed_here", "_law_words_here"]) fun _ _ _ _ _ _ us hl => match us, hl with | [_, _], _ => rfl
    F_program := F46, g_program := PySem.W.mg_of X G a46
    b_program := F46.binds (ps := ["_law_feed_here", "_law_words_here", "_law_depth", "_law_many"]) fun _ _ _ _ _ _ us hl => match us, hl with | [_, _, _, _], _ => rfl
    F_form_value := F47, g_form_value := PySem.W.mg_of X G a47
    b_form_value := F47.binds (ps := ["_law_form_here", "_law_values"]) fun _ _ _ _ _ _ us hl => match us, hl with | [_, _], _ => rfl
    F_walk := F48, g_walk := PySem.W.mg_of X G a48
    b_walk := F48.binds (ps := ["_law_program_here", "_law_values", "_law_left"]) fun _ _ _ _ _ _ us hl => match us, hl with | [_, _, _], _ => rfl
    F_run := F49, g_run := PySem.W.mg_of X G a49
    b_run := F49.binds (ps := ["_law_program_here", "_law_values", "_law_choices"]) fun _ _ _ _ _ _ us hl => match us, hl with | [_, _, _], _ => rfl
    F_p_law := F50, g_p_law := PySem.W.mg_of X G a50
    b_p_law := F50.binds (ps := ["_law_script"]) fun _ _ _ _ _ _ us hl => match us, hl with | [_], _ => rfl
    m_int := PySem.W.mg_none_of X G z_int
    m_len := PySem.W.mg_none_of X G z_len
    m_abs := PySem.W.mg_none_of X G z_abs
    m_range := PySem.W.mg_none_of X G z_range
    m_zip := PySem.W.mg_none_of X G z_zip
    m_all := PySem.W.mg_none_of X G z_all
    m_isinstance := PySem.W.mg_none_of X G z_isinstance
    m_bool := PySem.W.mg_none_of X G z_bool
    m_str := PySem.W.mg_none_of X G z_str
    m_tuple := PySem.W.mg_none_of X G z_tuple
    m_list := PySem.W.mg_none_of X G z_list
    m_dict := PySem.W.mg_none_of X G z_dict
    m_sorted := PySem.W.mg_none_of X G z_sorted
    m_set := PySem.W.mg_none_of X G z_set
    c_LONG := ⟨_, PySem.W.mg_of X G zc_LONG, ⟨_, rfl⟩⟩
    c_ZERO := ⟨_, PySem.W.mg_of X G zc_ZERO, rfl⟩
    z_ZERO := fun H => .inr ⟨_, _, _, lz_ZERO, rfl, rfl, small_line (by show 2 ≤ 1000; decide), .cons ⟨_, rfl⟩ (.cons ⟨_, rfl⟩ .nil)⟩
  }
  exact ⟨_, fun s v => .of_eq rfl, fun base _ _ => ok_p_law T⟩
end T9
open PySem PySem.W PyProof.Rows
set_option maxHeartbeats 0 in
theorem PySem.Challenge.cw_tiespan_k40_programs_run_holds : PySem.Challenge.rw_tiespan_k40_programs_run.Holds := by
  w_on; o_law; k_head; (case hw => w_witness2)
  k_fill
  refine L2.walk_of (l := PySem.Challenge.rw_tiespan_k40_programs_run) (n := 63) (k := 17) (x := "_law_script") (CX := fun _ => L2.CX0) (sp := fun w => T9.spLaw _) rfl (by decide) rfl ⟨rfl, by decide, by decide⟩ (fun w h Y => PySem.W.kIn_of Y) ?F (fun _ _ a ns hl _ hS => ⟨a, ns, rfl, hS, hl, fun _ => rfl⟩) (fun _ _ _ _ _ h => h)
  case F =>
    intro w mg fa h KX G hmg
    refine' T9.all_mk KX G hmg ?t10 ?a8 ?l8 ?c8 ?k8 ?a9 ?l9 ?c9 ?k9 ?a10 ?l10 ?c10 ?k10 ?a11 ?l11 ?c11 ?k11 ?a12 ?l12 ?c12 ?k12 ?a13 ?l13 ?c13 ?k13 ?a14 ?l14 ?c14 ?k14 ?a16 ?l16 ?c16 ?k16 ?a18 ?l18 ?c18 ?k18 ?a20 ?l20 ?c20 ?k20 ?a21 ?l21 ?c21 ?k21 ?a22 ?l22 ?c22 ?k22 ?a23 ?l23 ?c23 ?k23 ?a24 ?l24 ?c24 ?k24 ?a25 ?l25 ?c25 ?k25 ?a27 ?l27 ?c27 ?k27 ?a28 ?l28 ?c28 ?k28 ?a29 ?l29 ?c29 ?k29 ?a30 ?l30 ?c30 ?k30 ?a31 ?l31 ?c31 ?k31 ?a32 ?l32 ?c32 ?k32 ?a33 ?l33 ?c33 ?k33 ?a34 ?l34 ?c34 ?k34 ?a35 ?l35 ?c35 ?k35 ?a36 ?l36 ?c36 ?k36 ?a37 ?l37 ?c37 ?k37 ?a38 ?l38 ?c38 ?k38 ?a39 ?l39 ?c39 ?k39 ?a40 ?l40 ?c40 ?k40 ?a41 ?l41 ?c41 ?k41 ?a42 ?l42 ?c42 ?k42 ?a43 ?l43 ?c43 ?k43 ?a44 ?l44 ?c44 ?k44 ?a45 ?l45 ?c45 ?k45 ?a46 ?l46 ?c46 ?k46 ?a47 ?l47 ?c47 ?k47 ?a48 ?l48 ?c48 ?k48 ?a49 ?l49 ?c49 ?k49 ?a50 ?l50 ?c50 ?k50 ?z_int ?z_len ?z_abs ?z_range ?z_zip ?z_all ?z_isinstance ?z_bool ?z_str ?z_tuple ?z_list ?z_dict ?z_sorted ?z_set ?zc_ZERO ?lz_ZERO ?zc_LONG
    (case a8 => k_is); (case l8 => k_is); (case c8 => k_is); (case k8 => k_is)
    (case a9 => k_is); (case l9 => k_is); (case c9 => k_is); (case k9 => k_is)
    (case a10 => k_is); (case l10 => k_is); (case c10 => k_is); (case k10 => k_is)
    (case a11 => k_is); (case l11 => k_is); (case c11 => k_is); (case k11 => k_is)
    (case a12 => k_is); (case l12 => k_is); (case c12 => k_is); (case k12 => k_is)
    (case a13 => k_is); (case l13 => k_is); (case c13 => k_is); (case k13 => k_is)
    (case a14 => k_is); (case l14 => k_is); (case c14 => k_is); (case k14 => k_is)
    (case a16 => k_is); (case l16 => k_is); (case c16 => k_is); (case k16 => k_is)
    (case a18 => k_is); (case l18 => k_is); (case c18 => k_is); (case k18 => k_is)
    (case a20 => k_is); (case l20 => k_is); (case c20 => k_is); (case k20 => k_is)
    (case a21 => k_is); (case l21 => k_is); (case c21 => k_is); (case k21 => k_is)
    (case a22 => k_is); (case l22 => k_is); (case c22 => k_is); (case k22 => k_is)
    (case a23 => k_is); (case l23 => k_is); (case c23 => k_is); (case k23 => k_is)
    (case a24 => k_is); (case l24 => k_is); (case c24 => k_is); (case k24 => k_is)
    (case a25 => k_is); (case l25 => k_is); (case c25 => k_is); (case k25 => k_is)
    (case a27 => k_is); (case l27 => k_is); (case c27 => k_is); (case k27 => k_is)
    (case a28 => k_is); (case l28 => k_is); (case c28 => k_is); (case k28 => k_is)
    (case a29 => k_is); (case l29 => k_is); (case c29 => k_is); (case k29 => k_is)
    (case a30 => k_is); (case l30 => k_is); (case c30 => k_is); (case k30 => k_is)
    (case a31 => k_is); (case l31 => k_is); (case c31 => k_is); (case k31 => k_is)
    (case a32 => k_is); (case l32 => k_is); (case c32 => k_is); (case k32 => k_is)
    (case a33 => k_is); (case l33 => k_is); (case c33 => k_is); (case k33 => k_is)
    (case a34 => k_is); (case l34 => k_is); (case c34 => k_is); (case k34 => k_is)
    (case a35 => k_is); (case l35 => k_is); (case c35 => k_is); (case k35 => k_is)
    (case a36 => k_is); (case l36 => k_is); (case c36 => k_is); (case k36 => k_is)
    (case a37 => k_is); (case l37 => k_is); (case c37 => k_is); (case k37 => k_is)
    (case a38 => k_is); (case l38 => k_is); (case c38 => k_is); (case k38 => k_is)
    (case a39 => k_is); (case l39 => k_is); (case c39 => k_is); (case k39 => k_is)
    (case a40 => k_is); (case l40 => k_is); (case c40 => k_is); (case k40 => k_is)
    (case a41 => k_is); (case l41 => k_is); (case c41 => k_is); (case k41 => k_is)
    (case a42 => k_is); (case l42 => k_is); (case c42 => k_is); (case k42 => k_is)
    (case a43 => k_is); (case l43 => k_is); (case c43 => k_is); (case k43 => k_is)
    (case a44 => k_is); (case l44 => k_is); (case c44 => k_is); (case k44 => k_is)
    (case a45 => k_is); (case l45 => k_is); (case c45 => k_is); (case k45 => k_is)
    (case a46 => k_is); (case l46 => k_is); (case c46 => k_is); (case k46 => k_is)
    (case a47 => k_is); (case l47 => k_is); (case c47 => k_is); (case k47 => k_is)
    (case a48 => k_is); (case l48 => k_is); (case c48 => k_is); (case k48 => k_is)
    (case a49 => k_is); (case l49 => k_is); (case c49 => k_is); (case k49 => k_is)
    (case a50 => k_is); (case l50 => k_is); (case c50 => k_is); (case k50 => k_is)
    (case z_int => k_is)
    (case z_len => k_is)
    (case z_abs => k_is)
    (case z_range => k_is)
    (case z_zip => k_is)
    (case z_all => k_is)
    (case z_isinstance => k_is)
    (case z_bool => k_is)
    (case z_str => k_is)
    (case z_tuple => k_is)
    (case z_list => k_is)
    (case z_dict => k_is)
    (case z_sorted => k_is)
    (case z_set => k_is)
    (case zc_LONG => k_is)
    (case zc_ZERO => k_is)
    (case lz_ZERO => k_is)
    (case t10 => k_is)
